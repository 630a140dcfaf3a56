/- Walks over beams: moments. -/
import Derived.Test.YtablphoicidlkaaSP
namespace Go.Proofs.Ytablphoicidlkaa
open Go.RowKit

set_option maxHeartbeats 4000000 in
set_option maxRecDepth 20000 in
theorem momentAt_any {b : Bm} {A : Option Addr} {n c : Nat} {S x : Int} {l : List Pt} (hb : BmOk b) (hl : WtOk b.s l S) (x0 : 0 ≤ x) (x1 : x ≤ b.s) (w : World) (h : PtRow w A n l) :
    Calls Try.prog 100 #[bmV b, buV A n c S, .int .i64 x] w fun e w' => e = .returned (frV (mom b l S x) (2 * b.s)) ∧ Below w.heap.size w w' := by
  have SP := fun wx => Lib.hid (parts_any b hb wx)
  have ST := Lib.hid (fun wx (hx : Below w.heap.size w wx) => momentTerms_any (c := c) hb hl x0 x1 wx (h.below hx))
  have d1 : 0 < 2 * b.s ∧ 2 * b.s ≤ 4000 := by have := hb.s0; have := hb.s1; omega
  have d2 := mom_bd9 hb hl x0 x1
  unfold MtOut at ST
  obtain ⟨s, ww, t, en⟩ := b
  unfold bmV buV at *
  simp only at SP ST d1 ⊢
  clear h hb hl x0 x1
  generalize mom ⟨s, ww, t, en⟩ l S x = nu at *
  generalize 2 * s = dd at *
  have AD := Lib.hid (fun wx A n c zs (hr : IntRow wx A n zs) (hn : n ≤ 1000) (hs : sumL id zs = nu) => added_any (c := c) wx hr (by unfold maxLen; omega) d1.1 (by omega) hs (by omega))
  unfold frV at *
  generalize lowN nu dd = nn at *
  generalize lowD nu dd = de at *
  go_enter Try.func100, Try.ntmps100
  go_wp2
  obtain ⟨w0, hw0⟩ : ∃ w0, (((w.alloc (.cells #[.int .i64 s, .int .i64 ww, .int .i64 t, .int .i64 en] 23)).alloc (.cells #[.slice A n c, .int .i64 S] 26)).alloc (.cells #[.int .i64 0, .int .i64 0] 30)) = w0 := ⟨_, rfl⟩
  have HB0 : Hid (Below w.heap.size w w0) := Lib.hid (by rw [← hw0]; exact ((((Below.refl _ _).alloc (Nat.le_refl _) _).alloc (by simp; try omega) _).alloc (by simp; try omega) _))
  have HC := Lib.hid (fun wx (hb : Below w0.heap.size w0 wx) => (show wx.cell? ⟨w.heap.size, 0, none⟩ = some (.int .i64 s) ∧ wx.cell? ⟨w.heap.size, 1, none⟩ = some (.int .i64 ww) ∧ wx.cell? ⟨w.heap.size, 2, none⟩ = some (.int .i64 t) ∧ wx.cell? ⟨w.heap.size, 3, none⟩ = some (.int .i64 en) ∧ wx.cell? ⟨w.heap.size + 1, 0, none⟩ = some (.slice A n c) ∧ wx.cell? ⟨w.heap.size + 1, 1, none⟩ = some (.int .i64 S) ∧ wx.cell? ⟨w.heap.size + 2, 0, none⟩ = some (.int .i64 0) ∧ wx.cell? ⟨w.heap.size + 2, 1, none⟩ = some (.int .i64 0) ∧ wx.frozen? ⟨w.heap.size + 2, 0, none⟩ = false ∧ wx.frozen? ⟨w.heap.size + 2, 1, none⟩ = false from by
    subst hw0
    obtain ⟨k, kf⟩ := bcell hb
    exact ⟨(k _ _ (by simp; try omega)).trans (by simp [go_sem]), (k _ _ (by simp; try omega)).trans (by simp [go_sem]), (k _ _ (by simp; try omega)).trans (by simp [go_sem]), (k _ _ (by simp; try omega)).trans (by simp [go_sem]), (k _ _ (by simp; try omega)).trans (by simp [go_sem]), (k _ _ (by simp; try omega)).trans (by simp [go_sem]), (k _ _ (by simp; try omega)).trans (by simp [go_sem]), (k _ _ (by simp; try omega)).trans (by simp [go_sem]), (kf _ _ (by simp; try omega)).trans (by simp [go_sem]), (kf _ _ (by simp; try omega)).trans (by simp [go_sem])⟩))
  rw [hw0]
  clear hw0
  refine wp_region_rkt [7, 8, 9, 10, 11, 12, 13] [rEq (.agg #[.int .i64 s, .int .i64 ww, .int .i64 t, .int .i64 en]), rEq (.int .i64 dd), rEq (.agg #[.int .i64 s, .int .i64 ww, .int .i64 t, .int .i64 en]), rEq (.agg #[.slice A n c, .int .i64 S]), rEq (.int .i64 x), rSum (nu), rEq (.agg #[.int .i64 nn, .int .i64 de])] (by kernel_rfl) (by kernel_rfl) (by decide) rfl ⟨?_, ?_, ?_, ?_, ?_, ?_, ?_, trivial⟩ ?_
  · intro ac wx hf hb hd -- 0
    have f3 : ac.tmps[3]?.getD undef = .pointer (some ⟨w.heap.size, 0, none⟩) := by rw [← Array.getD_eq_getD_getElem?]; exact hf.same 3 (by decide)
    obtain ⟨c0, c1, c2, c3, c4, c5, c6, c7, z2_0, z2_1⟩ := HC.out wx hb
    exact rstep_eq (by simp [execOp, Act.eval, f3, c0, c1, c2, c3, go_sem]) rfl
  · intro ac wx hf hb hd -- 1
    have d0 : ac.tmps[7]?.getD undef = .agg #[.int .i64 s, .int .i64 ww, .int .i64 t, .int .i64 en] := by rw [← Array.getD_eq_getD_getElem?]; exact hd 0 (by decide)
    refine rstep_call (f := 93) (args := #[.agg #[.int .i64 s, .int .i64 ww, .int .i64 t, .int .i64 en]]) (by simp [Act.eval, d0, go_sem]) ?_ rfl
    exact (SP wx).out
  · intro ac wx hf hb hd -- 2
    have f3 : ac.tmps[3]?.getD undef = .pointer (some ⟨w.heap.size, 0, none⟩) := by rw [← Array.getD_eq_getD_getElem?]; exact hf.same 3 (by decide)
    obtain ⟨c0, c1, c2, c3, c4, c5, c6, c7, z2_0, z2_1⟩ := HC.out wx hb
    exact rstep_eq (by simp [execOp, Act.eval, f3, c0, c1, c2, c3, go_sem]) rfl
  · intro ac wx hf hb hd -- 3
    have f4 : ac.tmps[4]?.getD undef = .pointer (some ⟨w.heap.size + 1, 0, none⟩) := by rw [← Array.getD_eq_getD_getElem?]; exact hf.same 4 (by decide)
    obtain ⟨c0, c1, c2, c3, c4, c5, c6, c7, z2_0, z2_1⟩ := HC.out wx hb
    exact rstep_eq (by simp [execOp, Act.eval, f4, c4, c5, go_sem]) rfl
  · intro ac wx hf hb hd -- 4
    have f2 : ac.tmps[2]?.getD undef = .int .i64 x := by rw [← Array.getD_eq_getD_getElem?]; exact hf.same 2 (by decide)
    exact rstep_eq (by simp [execOp, Act.eval, f2, go_sem]) rfl
  · intro ac wx hf hb hd -- 5
    have d2 : ac.tmps[9]?.getD undef = .agg #[.int .i64 s, .int .i64 ww, .int .i64 t, .int .i64 en] := by rw [← Array.getD_eq_getD_getElem?]; exact hd 2 (by decide)
    have d3 : ac.tmps[10]?.getD undef = .agg #[.slice A n c, .int .i64 S] := by rw [← Array.getD_eq_getD_getElem?]; exact hd 3 (by decide)
    have d4 : ac.tmps[11]?.getD undef = .int .i64 x := by rw [← Array.getD_eq_getD_getElem?]; exact hd 4 (by decide)
    refine rstep_sum (f := 145) (args := #[.agg #[.int .i64 s, .int .i64 ww, .int .i64 t, .int .i64 en], .agg #[.slice A n c, .int .i64 S], .int .i64 x]) (by simp [Act.eval, d2, d3, d4, go_sem]) ?_ rfl
    exact ST.out wx (HB0.out.trans (hb.mono HB0.out.size))
  · intro ac wx hf hb hd -- 6
    have d1 : ac.tmps[8]?.getD undef = .int .i64 dd := by rw [← Array.getD_eq_getD_getElem?]; exact hd 1 (by decide)
    obtain ⟨A5, m5, cc5, zs5, d5, r5, hm5, hs5⟩ : ∃ (A : Option Addr) (m c : Nat) (zs : List Int), ac.tmps[12]?.getD undef = .slice A m c ∧ IntRow wx A m zs ∧ m ≤ 1000 ∧ sumL id zs = nu := by rw [← Array.getD_eq_getD_getElem?]; exact hd 5 (by decide)
    refine rstep_call (f := 92) (args := #[.int .i64 dd, .slice A5 m5 cc5]) (by simp [Act.eval, d1, d5, go_sem]) ?_ rfl
    exact AD.out wx _ _ _ zs5 r5 hm5 hs5
  rintro ⟨⟨ll⟩, df⟩ wx hf hb hall
  have hdf : df = [] := hf.defers
  subst hdf
  have hsz : ll.length = 14 := hf.size
  obtain ⟨x0, ll0, rfl, hsz0⟩ := cons_of hsz
  obtain ⟨x1, ll1, rfl, hsz1⟩ := cons_of hsz0
  obtain ⟨x2, ll2, rfl, hsz2⟩ := cons_of hsz1
  obtain ⟨x3, ll3, rfl, hsz3⟩ := cons_of hsz2
  obtain ⟨x4, ll4, rfl, hsz4⟩ := cons_of hsz3
  obtain ⟨x5, ll5, rfl, hsz5⟩ := cons_of hsz4
  obtain ⟨x6, ll6, rfl, hsz6⟩ := cons_of hsz5
  obtain ⟨x7, ll7, rfl, hsz7⟩ := cons_of hsz6
  obtain ⟨x8, ll8, rfl, hsz8⟩ := cons_of hsz7
  obtain ⟨x9, ll9, rfl, hsz9⟩ := cons_of hsz8
  obtain ⟨x10, ll10, rfl, hsz10⟩ := cons_of hsz9
  obtain ⟨x11, ll11, rfl, hsz11⟩ := cons_of hsz10
  obtain ⟨x12, ll12, rfl, hsz12⟩ := cons_of hsz11
  obtain ⟨x13, ll13, rfl, hsz13⟩ := cons_of hsz12
  obtain rfl := List.eq_nil_of_length_eq_zero hsz13
  obtain rfl : x2 = .int .i64 x := hf.same 2 (by decide)
  obtain rfl : x3 = .pointer (some ⟨w.heap.size, 0, none⟩) := hf.same 3 (by decide)
  obtain rfl : x4 = .pointer (some ⟨w.heap.size + 1, 0, none⟩) := hf.same 4 (by decide)
  obtain rfl : x6 = .pointer (some ⟨w.heap.size + 2, 0, none⟩) := hf.same 6 (by decide)
  obtain rfl : x7 = .agg #[.int .i64 s, .int .i64 ww, .int .i64 t, .int .i64 en] := hall 0 7 rfl
  obtain rfl : x8 = .int .i64 dd := hall 1 8 rfl
  obtain rfl : x9 = .agg #[.int .i64 s, .int .i64 ww, .int .i64 t, .int .i64 en] := hall 2 9 rfl
  obtain rfl : x10 = .agg #[.slice A n c, .int .i64 S] := hall 3 10 rfl
  obtain rfl : x11 = .int .i64 x := hall 4 11 rfl
  obtain rfl : x13 = .agg #[.int .i64 nn, .int .i64 de] := hall 6 13 rfl
  clear hall hf
  intro o ho
  have ho2 : _ = o := Option.some.inj ho
  subst ho2
  clear ho
  obtain ⟨c0, c1, c2, c3, c4, c5, c6, c7, z2_0, z2_1⟩ := HC.out wx hb
  simp [Oper.wp, Oper.upon, execOp, Act.eval, go_sem, c6, c7, z2_0, z2_1]
  go_wp2
  refine bodyPost_ret (v := .agg #[.int .i64 nn, .int .i64 de]) (by simp [results, Try.results100, go_sem, c6, c7]) rfl ⟨rfl, ?_⟩
  exact ((HB0.out.trans (hb.mono HB0.out.size)).setCell (p := ⟨w.heap.size + 2, 0, none⟩) (by simp) _).setCell (p := ⟨w.heap.size + 2, 1, none⟩) (by simp) _
def momE (b : Bm) (l : List Pt) (S x : Int) : Int := firstE [burE b l S, rngE 0 b.s [x]]
theorem momE_ok {b : Bm} {l : List Pt} {S x : Int} : momE b l S x = 0 ↔ (BmOk b ∧ WtOk b.s l S) ∧ (0 ≤ x ∧ x ≤ b.s) := by
  unfold momE
  rw [firstE_ok]
  simp only [List.mem_cons, List.not_mem_nil, or_false, forall_eq_or_imp, forall_eq, burE_ok, rngE_ok]
set_option maxHeartbeats 4000000 in
set_option maxRecDepth 20000 in
theorem momentF_any {b : Bm} {A : Option Addr} {n c : Nat} {S x : Int} {l : List Pt} (w : World) (h : PtRow w A n l) (hn : n ≤ maxLen) :
    Calls Try.prog 31 #[bmV b, buV A n c S, .int .i64 x] w fun e w' => e = .returned (fr1 (momE b l S x) (mom b l S x) (2 * b.s)) ∧ Below w.heap.size w w' := by
  have CB := Lib.hid (fun wx (hx : Below w.heap.size w wx) => checkBurden_any (b := b) (c := c) (S := S) wx (h.below hx) hn)
  have CP := fun wx => Lib.hid (checkPlace_any b x wx)
  have SA := Lib.hid (fun (he : momE b l S x = 0) wx (hx : Below w.heap.size w wx) => let h' := momE_ok.1 he; momentAt_any (c := c) h'.1.1 h'.1.2 h'.2.1 h'.2.2 wx (h.below hx))
  have HE : Hid (momE b l S x = firstE [burE b l S, rngE 0 b.s [x]]) := Lib.hid rfl
  clear h hn
  obtain ⟨s, ww, t, en⟩ := b
  unfold bmV buV frV at *
  simp only at CB CP SA HE ⊢
  generalize mom ⟨s, ww, t, en⟩ l S x = nu at *
  generalize 2 * s = dd at *
  generalize momE ⟨s, ww, t, en⟩ l S x = ee at *
  generalize burE ⟨s, ww, t, en⟩ l S = e1 at *
  generalize rngE 0 s [x] = e2 at *
  have C3 := fun wx b (h : IntRow wx (some ⟨b, 0, none⟩) 2 [e1, e2]) => Lib.hid (firstError_any (c := 2) wx h (by decide))
  rw [← HE.out] at C3
  clear HE
  go_enter Try.func31, Try.ntmps31
  go_wp2
  obtain ⟨w0, hw0⟩ : ∃ w0, (((w.alloc (.cells #[.int .i64 s, .int .i64 ww, .int .i64 t, .int .i64 en] 23)).alloc (.cells #[.slice A n c, .int .i64 S] 26)).alloc (.cells #[.int .i64 0, .int .i64 0] 30)) = w0 := ⟨_, rfl⟩
  have HB0 : Hid (Below w.heap.size w w0) := Lib.hid (by rw [← hw0]; exact ((((Below.refl _ _).alloc (Nat.le_refl _) _).alloc (by simp; try omega) _).alloc (by simp; try omega) _))
  have HC := Lib.hid (fun wx (hb : Below w0.heap.size w0 wx) => (show wx.cell? ⟨w.heap.size, 0, none⟩ = some (.int .i64 s) ∧ wx.cell? ⟨w.heap.size, 1, none⟩ = some (.int .i64 ww) ∧ wx.cell? ⟨w.heap.size, 2, none⟩ = some (.int .i64 t) ∧ wx.cell? ⟨w.heap.size, 3, none⟩ = some (.int .i64 en) ∧ wx.cell? ⟨w.heap.size + 1, 0, none⟩ = some (.slice A n c) ∧ wx.cell? ⟨w.heap.size + 1, 1, none⟩ = some (.int .i64 S) ∧ wx.cell? ⟨w.heap.size + 2, 0, none⟩ = some (.int .i64 0) ∧ wx.cell? ⟨w.heap.size + 2, 1, none⟩ = some (.int .i64 0) ∧ wx.frozen? ⟨w.heap.size + 2, 0, none⟩ = false ∧ wx.frozen? ⟨w.heap.size + 2, 1, none⟩ = false from by
    subst hw0
    obtain ⟨k, kf⟩ := bcell hb
    exact ⟨(k _ _ (by simp; try omega)).trans (by simp [go_sem]), (k _ _ (by simp; try omega)).trans (by simp [go_sem]), (k _ _ (by simp; try omega)).trans (by simp [go_sem]), (k _ _ (by simp; try omega)).trans (by simp [go_sem]), (k _ _ (by simp; try omega)).trans (by simp [go_sem]), (k _ _ (by simp; try omega)).trans (by simp [go_sem]), (k _ _ (by simp; try omega)).trans (by simp [go_sem]), (k _ _ (by simp; try omega)).trans (by simp [go_sem]), (kf _ _ (by simp; try omega)).trans (by simp [go_sem]), (kf _ _ (by simp; try omega)).trans (by simp [go_sem])⟩))
  rw [hw0]
  clear hw0
  refine wp_region_rk [9, 10, 11, 12, 13, 14, 15, 16, 8] [rEq (.agg #[.int .i64 s, .int .i64 ww, .int .i64 t, .int .i64 en]), rEq (.agg #[.slice A n c, .int .i64 S]), rEq (.int .i64 e1), rEq (.agg #[.int .i64 s, .int .i64 ww, .int .i64 t, .int .i64 en]), rEq (.int .i64 x), rEq (.int .i64 e2), rRow [e1, e2] 2, rEq (.int .i64 ee), rEq (.int .i64 ee)] (by kernel_rfl) (by kernel_rfl) (by decide) rfl ⟨?_, ?_, ?_, ?_, ?_, ?_, ?_, ?_, ?_, trivial⟩ ?_
  · intro ac wx hf hb hd -- 0
    have f3 : ac.tmps[3]?.getD undef = .pointer (some ⟨w.heap.size, 0, none⟩) := by rw [← Array.getD_eq_getD_getElem?]; exact hf.same 3 (by decide)
    obtain ⟨c0, c1, c2, c3, c4, c5, c6, c7, z2_0, z2_1⟩ := HC.out wx hb
    exact rstep_eq (by simp [execOp, Act.eval, f3, c0, c1, c2, c3, go_sem]) rfl
  · intro ac wx hf hb hd -- 1
    have f4 : ac.tmps[4]?.getD undef = .pointer (some ⟨w.heap.size + 1, 0, none⟩) := by rw [← Array.getD_eq_getD_getElem?]; exact hf.same 4 (by decide)
    obtain ⟨c0, c1, c2, c3, c4, c5, c6, c7, z2_0, z2_1⟩ := HC.out wx hb
    exact rstep_eq (by simp [execOp, Act.eval, f4, c4, c5, go_sem]) rfl
  · intro ac wx hf hb hd -- 2
    have d0 : ac.tmps[9]?.getD undef = .agg #[.int .i64 s, .int .i64 ww, .int .i64 t, .int .i64 en] := by rw [← Array.getD_eq_getD_getElem?]; exact hd 0 (by decide)
    have d1 : ac.tmps[10]?.getD undef = .agg #[.slice A n c, .int .i64 S] := by rw [← Array.getD_eq_getD_getElem?]; exact hd 1 (by decide)
    refine rstep_call (f := 26) (args := #[.agg #[.int .i64 s, .int .i64 ww, .int .i64 t, .int .i64 en], .agg #[.slice A n c, .int .i64 S]]) (by simp [Act.eval, d0, d1, go_sem]) ?_ rfl
    exact CB.out wx (HB0.out.trans (hb.mono HB0.out.size))
  · intro ac wx hf hb hd -- 3
    have f3 : ac.tmps[3]?.getD undef = .pointer (some ⟨w.heap.size, 0, none⟩) := by rw [← Array.getD_eq_getD_getElem?]; exact hf.same 3 (by decide)
    obtain ⟨c0, c1, c2, c3, c4, c5, c6, c7, z2_0, z2_1⟩ := HC.out wx hb
    exact rstep_eq (by simp [execOp, Act.eval, f3, c0, c1, c2, c3, go_sem]) rfl
  · intro ac wx hf hb hd -- 4
    have f2 : ac.tmps[2]?.getD undef = .int .i64 x := by rw [← Array.getD_eq_getD_getElem?]; exact hf.same 2 (by decide)
    exact rstep_eq (by simp [execOp, Act.eval, f2, go_sem]) rfl
  · intro ac wx hf hb hd -- 5
    have d3 : ac.tmps[12]?.getD undef = .agg #[.int .i64 s, .int .i64 ww, .int .i64 t, .int .i64 en] := by rw [← Array.getD_eq_getD_getElem?]; exact hd 3 (by decide)
    have d4 : ac.tmps[13]?.getD undef = .int .i64 x := by rw [← Array.getD_eq_getD_getElem?]; exact hd 4 (by decide)
    refine rstep_call (f := 99) (args := #[.agg #[.int .i64 s, .int .i64 ww, .int .i64 t, .int .i64 en], .int .i64 x]) (by simp [Act.eval, d3, d4, go_sem]) ?_ rfl
    exact (CP wx).out
  · intro ac wx hf hb hd -- 6
    have d2 : ac.tmps[11]?.getD undef = .int .i64 e1 := by rw [← Array.getD_eq_getD_getElem?]; exact hd 2 (by decide)
    have d5 : ac.tmps[14]?.getD undef = .int .i64 e2 := by rw [← Array.getD_eq_getD_getElem?]; exact hd 5 (by decide)
    exact rstep_row (t := 31) (zs := [e1, e2]) rfl rfl (by simp [execOp, Act.eval, d2, d5, go_sem]) rfl
  · intro ac wx hf hb hd -- 7
    obtain ⟨b6, d6, r6⟩ : ∃ b, ac.tmps[15]?.getD undef = .slice (some ⟨b, 0, none⟩) 2 2 ∧ IntRow wx (some ⟨b, 0, none⟩) 2 [e1, e2] := by rw [← Array.getD_eq_getD_getElem?]; exact hd 6 (by decide)
    refine rstep_call (f := 95) (args := #[.slice (some ⟨b6, 0, none⟩) 2 2]) (by simp [Act.eval, d6, go_sem]) ?_ rfl
    exact (C3 wx b6 r6).out.mono fun e w' ⟨he, hw⟩ => ⟨he, hw ▸ Below.refl _ _⟩
  · intro ac wx hf hb hd -- 8
    have d7 : ac.tmps[16]?.getD undef = .int .i64 ee := by rw [← Array.getD_eq_getD_getElem?]; exact hd 7 (by decide)
    exact rstep_eq (by simp [execOp, Act.eval, d7, go_sem]) rfl
  rintro ⟨⟨ll⟩, df⟩ wx hf hb hall
  have hdf : df = [] := hf.defers
  subst hdf
  have hsz : ll.length = 25 := hf.size
  obtain ⟨x0, ll0, rfl, hsz0⟩ := cons_of hsz
  obtain ⟨x1, ll1, rfl, hsz1⟩ := cons_of hsz0
  obtain ⟨x2, ll2, rfl, hsz2⟩ := cons_of hsz1
  obtain ⟨x3, ll3, rfl, hsz3⟩ := cons_of hsz2
  obtain ⟨x4, ll4, rfl, hsz4⟩ := cons_of hsz3
  obtain ⟨x5, ll5, rfl, hsz5⟩ := cons_of hsz4
  obtain ⟨x6, ll6, rfl, hsz6⟩ := cons_of hsz5
  obtain ⟨x7, ll7, rfl, hsz7⟩ := cons_of hsz6
  obtain ⟨x8, ll8, rfl, hsz8⟩ := cons_of hsz7
  obtain ⟨x9, ll9, rfl, hsz9⟩ := cons_of hsz8
  obtain ⟨x10, ll10, rfl, hsz10⟩ := cons_of hsz9
  obtain ⟨x11, ll11, rfl, hsz11⟩ := cons_of hsz10
  obtain ⟨x12, ll12, rfl, hsz12⟩ := cons_of hsz11
  obtain ⟨x13, ll13, rfl, hsz13⟩ := cons_of hsz12
  obtain ⟨x14, ll14, rfl, hsz14⟩ := cons_of hsz13
  obtain ⟨x15, ll15, rfl, hsz15⟩ := cons_of hsz14
  obtain ⟨x16, ll16, rfl, hsz16⟩ := cons_of hsz15
  obtain ⟨x17, ll17, rfl, hsz17⟩ := cons_of hsz16
  obtain ⟨x18, ll18, rfl, hsz18⟩ := cons_of hsz17
  obtain ⟨x19, ll19, rfl, hsz19⟩ := cons_of hsz18
  obtain ⟨x20, ll20, rfl, hsz20⟩ := cons_of hsz19
  obtain ⟨x21, ll21, rfl, hsz21⟩ := cons_of hsz20
  obtain ⟨x22, ll22, rfl, hsz22⟩ := cons_of hsz21
  obtain ⟨x23, ll23, rfl, hsz23⟩ := cons_of hsz22
  obtain ⟨x24, ll24, rfl, hsz24⟩ := cons_of hsz23
  obtain rfl := List.eq_nil_of_length_eq_zero hsz24
  obtain rfl : x2 = .int .i64 x := hf.same 2 (by decide)
  obtain rfl : x3 = .pointer (some ⟨w.heap.size, 0, none⟩) := hf.same 3 (by decide)
  obtain rfl : x4 = .pointer (some ⟨w.heap.size + 1, 0, none⟩) := hf.same 4 (by decide)
  obtain rfl : x6 = .pointer (some ⟨w.heap.size + 2, 0, none⟩) := hf.same 6 (by decide)
  obtain rfl : x8 = .int .i64 ee := hall 8 8 rfl
  obtain rfl : x9 = .agg #[.int .i64 s, .int .i64 ww, .int .i64 t, .int .i64 en] := hall 0 9 rfl
  obtain rfl : x10 = .agg #[.slice A n c, .int .i64 S] := hall 1 10 rfl
  obtain rfl : x11 = .int .i64 e1 := hall 2 11 rfl
  obtain rfl : x12 = .agg #[.int .i64 s, .int .i64 ww, .int .i64 t, .int .i64 en] := hall 3 12 rfl
  obtain rfl : x13 = .int .i64 x := hall 4 13 rfl
  obtain rfl : x14 = .int .i64 e2 := hall 5 14 rfl
  obtain rfl : x16 = .int .i64 ee := hall 7 16 rfl
  clear hall hf
  obtain ⟨c0, c1, c2, c3, c4, c5, c6, c7, z2_0, z2_1⟩ := HC.out wx hb
  have HBX := Lib.hid (HB0.out.trans (hb.mono HB0.out.size))
  by_cases he : ee = 0
  · subst he
    have SA' := SA.out rfl
    have HN : Hid (frV nu dd = .agg #[.int .i64 (lowN nu dd), .int .i64 (lowD nu dd)]) := Lib.hid rfl
    generalize lowN nu dd = nn at *
    generalize lowD nu dd = de at *
    have SA2 := Lib.hid SA'
    clear SA SA'
    go_wp2_with (go_at_call 100; (refine Calls.mono (SA2.out _ HBX.out) ?_); rintro e w2 ⟨rfl, hb2⟩; obtain ⟨e0, e1, e2, e3, e4, e5, e6, e7, y2_0, y2_1⟩ := HC.out w2 (hb.trans (hb2.mono hb.size)))
    refine bodyPost_ret (v := .tuple #[.agg #[.int .i64 nn, .int .i64 de], .int .i64 0]) (by simp [results, Try.results31, go_sem, e6, e7]) rfl ⟨by rw [fr1_ok, HN.out], ?_⟩
    exact ((HBX.out.trans (hb2.mono HBX.out.size)).setCell (p := ⟨w.heap.size + 2, 0, none⟩) (by simp) _).setCell (p := ⟨w.heap.size + 2, 1, none⟩) (by simp) _
  · have e1' : (ee == 0) = false := by simpa using he
    have e2' : (ee != 0) = true := by simpa using he
    go_wp2
    refine bodyPost_ret (v := .tuple #[.agg #[.int .i64 0, .int .i64 0], .int .i64 ee]) (by simp [results, Try.results31, go_sem, c6, c7]) rfl ⟨by rw [fr1_bad he], ?_⟩
    exact (HBX.out.setCell (p := ⟨w.heap.size + 2, 0, none⟩) (by simp) _).setCell (p := ⟨w.heap.size + 2, 1, none⟩) (by simp) _
end Go.Proofs.Ytablphoicidlkaa
