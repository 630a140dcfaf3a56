/- Walks over beams: sags. -/
import Derived.Test.YtablphoicidlkaaSN
namespace Go.Proofs.Ytablphoicidlkaa
open Go.RowKit

theorem sgD_bd {b : Bm} {E : Int} (hb : BmOk b) (h0 : 1 ≤ E) (h1 : E ≤ 30000) : 0 < sgD b E ∧ sgD b E ≤ 4000000000000000000 := by
  have E1 : Ev b.s b.s 2000 := .of (by have := hb.s0; have := hb.s1; omega)
  have E2 : Ev b.w b.w 1000 := .of (by have := hb.w0; have := hb.w1; omega)
  have E3 : Ev b.t b.t 300 := .of (by have := hb.t0; have := hb.t1; omega)
  have E4 : Ev E E 30000 := .of (by omega)
  have h := ev_bd (M := 4000000000000000000) (Ev.mul (Ev.mul (Ev.mul (Ev.mul (Ev.mul (Ev.mul (Ev.lit 2) E1) E4) E2) E3) E3) E3) (by decide +kernel)
  have ht : 0 < b.t := by have := hb.t0; omega
  have hp : 0 < sgD b E := Int.mul_pos (Int.mul_pos (Int.mul_pos (Int.mul_pos (Int.mul_pos (by have := hb.s0; omega) (by omega)) (by have := hb.w0; omega)) ht) ht) ht
  unfold sgD at *
  omega
set_option maxHeartbeats 1000000 in
theorem sagParts_any {b : Bm} {E : Int} (hb : BmOk b) (h0 : 1 ≤ E) (h1 : E ≤ 30000) (w : World) : Calls Try.prog 107 #[bmV b, .int .i64 E] w fun e w' => e = .returned (.int .i64 (sgD b E)) ∧ Below w.heap.size w w' := by
  obtain ⟨s, ww, t, en⟩ := b
  obtain ⟨s0, s1, w0, w1, t0, t1, e0⟩ := hb
  simp only at s0 s1 w0 w1 t0 t1
  unfold bmV sgD
  simp only
  have E1 : Ev s s 2000 := .of (by omega)
  have E2 : Ev ww ww 1000 := .of (by omega)
  have E3 : Ev t t 300 := .of (by omega)
  have E4 : Ev E E 30000 := .of (by omega)
  have q0 : wrap64 (2 * s * E) = 2 * s * E := by (apply Ev.e; repeat' (first | with_reducible assumption | with_reducible apply Ev.wrap | with_reducible apply Ev.mul | with_reducible apply Ev.add | with_reducible apply Ev.sub | with_reducible apply Ev.neg | exact Ev.lit _ | (decide +kernel)))
  have q1 : wrap64 (2 * s * E * ww) = 2 * s * E * ww := by (apply Ev.e; repeat' (first | with_reducible assumption | with_reducible apply Ev.wrap | with_reducible apply Ev.mul | with_reducible apply Ev.add | with_reducible apply Ev.sub | with_reducible apply Ev.neg | exact Ev.lit _ | (decide +kernel)))
  have q2 : wrap64 (2 * s * E * ww * t) = 2 * s * E * ww * t := by (apply Ev.e; repeat' (first | with_reducible assumption | with_reducible apply Ev.wrap | with_reducible apply Ev.mul | with_reducible apply Ev.add | with_reducible apply Ev.sub | with_reducible apply Ev.neg | exact Ev.lit _ | (decide +kernel)))
  have q3 : wrap64 (2 * s * E * ww * t * t) = 2 * s * E * ww * t * t := by (apply Ev.e; repeat' (first | with_reducible assumption | with_reducible apply Ev.wrap | with_reducible apply Ev.mul | with_reducible apply Ev.add | with_reducible apply Ev.sub | with_reducible apply Ev.neg | exact Ev.lit _ | (decide +kernel)))
  have q4 : wrap64 (2 * s * E * ww * t * t * t) = 2 * s * E * ww * t * t * t := by (apply Ev.e; repeat' (first | with_reducible assumption | with_reducible apply Ev.wrap | with_reducible apply Ev.mul | with_reducible apply Ev.add | with_reducible apply Ev.sub | with_reducible apply Ev.neg | exact Ev.lit _ | (decide +kernel)))
  clear E1 E2 E3 E4
  go_enter Try.func107, Try.ntmps107
  go_wp2
  go_ret
  exact ⟨ret_int (by first | rfl | exact q4), (Below.refl _ _).alloc (Nat.le_refl _) _⟩
set_option maxHeartbeats 4000000 in
set_option maxRecDepth 20000 in
theorem sagAt_any {b : Bm} {A : Option Addr} {n c : Nat} {S E x : Int} {l : List Pt} (hb : BmOk b) (hl : WtOk b.s l S) (h0 : 1 ≤ E) (h1 : E ≤ 30000) (x0 : 0 ≤ x) (x1 : x ≤ b.s) (w : World) (h : PtRow w A n l) :
    Calls Try.prog 105 #[bmV b, .int .i64 E, buV A n c S, .int .i64 x] w fun e w' => e = .returned (frV (sag b l S x) (sgD b E)) ∧ Below w.heap.size w w' := by
  have SP := fun wx => Lib.hid (sagParts_any hb h0 h1 wx)
  have ST := Lib.hid (fun wx (hx : Below w.heap.size w wx) => sagTerms_any (c := c) hb hl x0 x1 wx (h.below hx))
  have d1 := sgD_bd hb h0 h1
  have d2 := sag_bd hb hl x0 x1
  unfold SgOut at ST
  obtain ⟨s, ww, t, en⟩ := b
  unfold bmV buV at *
  simp only at SP ST ⊢
  clear h hb hl h0 h1 x0 x1
  generalize sag ⟨s, ww, t, en⟩ l S x = nu at *
  generalize sgD ⟨s, ww, t, en⟩ E = dd at *
  have AD := Lib.hid (fun wx A n c zs (hr : IntRow wx A n zs) (hn : n ≤ 1000) (hs : sumL id zs = nu) => added_any (c := c) wx hr (by unfold maxLen; omega) d1.1 (by omega) hs (by omega))
  unfold frV at *
  generalize lowN nu dd = nn at *
  generalize lowD nu dd = de at *
  go_enter Try.func105, Try.ntmps105
  go_wp2
  obtain ⟨w0, hw0⟩ : ∃ w0, (((w.alloc (.cells #[.int .i64 s, .int .i64 ww, .int .i64 t, .int .i64 en] 23)).alloc (.cells #[.slice A n c, .int .i64 S] 26)).alloc (.cells #[.int .i64 0, .int .i64 0] 30)) = w0 := ⟨_, rfl⟩
  have HB0 : Hid (Below w.heap.size w w0) := Lib.hid (by rw [← hw0]; exact ((((Below.refl _ _).alloc (Nat.le_refl _) _).alloc (by simp; try omega) _).alloc (by simp; try omega) _))
  have HC := Lib.hid (fun wx (hb : Below w0.heap.size w0 wx) => (show wx.cell? ⟨w.heap.size, 0, none⟩ = some (.int .i64 s) ∧ wx.cell? ⟨w.heap.size, 1, none⟩ = some (.int .i64 ww) ∧ wx.cell? ⟨w.heap.size, 2, none⟩ = some (.int .i64 t) ∧ wx.cell? ⟨w.heap.size, 3, none⟩ = some (.int .i64 en) ∧ wx.cell? ⟨w.heap.size + 1, 0, none⟩ = some (.slice A n c) ∧ wx.cell? ⟨w.heap.size + 1, 1, none⟩ = some (.int .i64 S) ∧ wx.cell? ⟨w.heap.size + 2, 0, none⟩ = some (.int .i64 0) ∧ wx.cell? ⟨w.heap.size + 2, 1, none⟩ = some (.int .i64 0) ∧ wx.frozen? ⟨w.heap.size + 2, 0, none⟩ = false ∧ wx.frozen? ⟨w.heap.size + 2, 1, none⟩ = false from by
    subst hw0
    obtain ⟨k, kf⟩ := bcell hb
    exact ⟨(k _ _ (by simp; try omega)).trans (by simp [go_sem]), (k _ _ (by simp; try omega)).trans (by simp [go_sem]), (k _ _ (by simp; try omega)).trans (by simp [go_sem]), (k _ _ (by simp; try omega)).trans (by simp [go_sem]), (k _ _ (by simp; try omega)).trans (by simp [go_sem]), (k _ _ (by simp; try omega)).trans (by simp [go_sem]), (k _ _ (by simp; try omega)).trans (by simp [go_sem]), (k _ _ (by simp; try omega)).trans (by simp [go_sem]), (kf _ _ (by simp; try omega)).trans (by simp [go_sem]), (kf _ _ (by simp; try omega)).trans (by simp [go_sem])⟩))
  rw [hw0]
  clear hw0
  refine wp_region_rkt [9, 10, 11, 12, 13, 14, 15, 16] [rEq (.agg #[.int .i64 s, .int .i64 ww, .int .i64 t, .int .i64 en]), rEq (.int .i64 E), rEq (.int .i64 dd), rEq (.agg #[.int .i64 s, .int .i64 ww, .int .i64 t, .int .i64 en]), rEq (.agg #[.slice A n c, .int .i64 S]), rEq (.int .i64 x), rSum (nu), rEq (.agg #[.int .i64 nn, .int .i64 de])] (by kernel_rfl) (by kernel_rfl) (by decide) rfl ⟨?_, ?_, ?_, ?_, ?_, ?_, ?_, ?_, trivial⟩ ?_
  · intro ac wx hf hb hd -- 0
    have f4 : ac.tmps[4]?.getD undef = .pointer (some ⟨w.heap.size, 0, none⟩) := by rw [← Array.getD_eq_getD_getElem?]; exact hf.same 4 (by decide)
    obtain ⟨c0, c1, c2, c3, c4, c5, c6, c7, z2_0, z2_1⟩ := HC.out wx hb
    exact rstep_eq (by simp [execOp, Act.eval, f4, c0, c1, c2, c3, go_sem]) rfl
  · intro ac wx hf hb hd -- 1
    have f1 : ac.tmps[1]?.getD undef = .int .i64 E := by rw [← Array.getD_eq_getD_getElem?]; exact hf.same 1 (by decide)
    exact rstep_eq (by simp [execOp, Act.eval, f1, go_sem]) rfl
  · intro ac wx hf hb hd -- 2
    have d0 : ac.tmps[9]?.getD undef = .agg #[.int .i64 s, .int .i64 ww, .int .i64 t, .int .i64 en] := by rw [← Array.getD_eq_getD_getElem?]; exact hd 0 (by decide)
    have d1 : ac.tmps[10]?.getD undef = .int .i64 E := by rw [← Array.getD_eq_getD_getElem?]; exact hd 1 (by decide)
    refine rstep_call (f := 107) (args := #[.agg #[.int .i64 s, .int .i64 ww, .int .i64 t, .int .i64 en], .int .i64 E]) (by simp [Act.eval, d0, d1, go_sem]) ?_ rfl
    exact (SP wx).out
  · intro ac wx hf hb hd -- 3
    have f4 : ac.tmps[4]?.getD undef = .pointer (some ⟨w.heap.size, 0, none⟩) := by rw [← Array.getD_eq_getD_getElem?]; exact hf.same 4 (by decide)
    obtain ⟨c0, c1, c2, c3, c4, c5, c6, c7, z2_0, z2_1⟩ := HC.out wx hb
    exact rstep_eq (by simp [execOp, Act.eval, f4, c0, c1, c2, c3, go_sem]) rfl
  · intro ac wx hf hb hd -- 4
    have f6 : ac.tmps[6]?.getD undef = .pointer (some ⟨w.heap.size + 1, 0, none⟩) := by rw [← Array.getD_eq_getD_getElem?]; exact hf.same 6 (by decide)
    obtain ⟨c0, c1, c2, c3, c4, c5, c6, c7, z2_0, z2_1⟩ := HC.out wx hb
    exact rstep_eq (by simp [execOp, Act.eval, f6, c4, c5, go_sem]) rfl
  · intro ac wx hf hb hd -- 5
    have f3 : ac.tmps[3]?.getD undef = .int .i64 x := by rw [← Array.getD_eq_getD_getElem?]; exact hf.same 3 (by decide)
    exact rstep_eq (by simp [execOp, Act.eval, f3, go_sem]) rfl
  · intro ac wx hf hb hd -- 6
    have d3 : ac.tmps[12]?.getD undef = .agg #[.int .i64 s, .int .i64 ww, .int .i64 t, .int .i64 en] := by rw [← Array.getD_eq_getD_getElem?]; exact hd 3 (by decide)
    have d4 : ac.tmps[13]?.getD undef = .agg #[.slice A n c, .int .i64 S] := by rw [← Array.getD_eq_getD_getElem?]; exact hd 4 (by decide)
    have d5 : ac.tmps[14]?.getD undef = .int .i64 x := by rw [← Array.getD_eq_getD_getElem?]; exact hd 5 (by decide)
    refine rstep_sum (f := 148) (args := #[.agg #[.int .i64 s, .int .i64 ww, .int .i64 t, .int .i64 en], .agg #[.slice A n c, .int .i64 S], .int .i64 x]) (by simp [Act.eval, d3, d4, d5, go_sem]) ?_ rfl
    exact ST.out wx (HB0.out.trans (hb.mono HB0.out.size))
  · intro ac wx hf hb hd -- 7
    have d2 : ac.tmps[11]?.getD undef = .int .i64 dd := by rw [← Array.getD_eq_getD_getElem?]; exact hd 2 (by decide)
    obtain ⟨A6, m6, cc6, zs6, d6, r6, hm6, hs6⟩ : ∃ (A : Option Addr) (m c : Nat) (zs : List Int), ac.tmps[15]?.getD undef = .slice A m c ∧ IntRow wx A m zs ∧ m ≤ 1000 ∧ sumL id zs = nu := by rw [← Array.getD_eq_getD_getElem?]; exact hd 6 (by decide)
    refine rstep_call (f := 92) (args := #[.int .i64 dd, .slice A6 m6 cc6]) (by simp [Act.eval, d2, d6, go_sem]) ?_ rfl
    exact AD.out wx _ _ _ zs6 r6 hm6 hs6
  rintro ⟨⟨ll⟩, df⟩ wx hf hb hall
  have hdf : df = [] := hf.defers
  subst hdf
  have hsz : ll.length = 17 := hf.size
  obtain ⟨x0, ll0, rfl, hsz0⟩ := cons_of hsz
  obtain ⟨x1, ll1, rfl, hsz1⟩ := cons_of hsz0
  obtain ⟨x2, ll2, rfl, hsz2⟩ := cons_of hsz1
  obtain ⟨x3, ll3, rfl, hsz3⟩ := cons_of hsz2
  obtain ⟨x4, ll4, rfl, hsz4⟩ := cons_of hsz3
  obtain ⟨x5, ll5, rfl, hsz5⟩ := cons_of hsz4
  obtain ⟨x6, ll6, rfl, hsz6⟩ := cons_of hsz5
  obtain ⟨x7, ll7, rfl, hsz7⟩ := cons_of hsz6
  obtain ⟨x8, ll8, rfl, hsz8⟩ := cons_of hsz7
  obtain ⟨x9, ll9, rfl, hsz9⟩ := cons_of hsz8
  obtain ⟨x10, ll10, rfl, hsz10⟩ := cons_of hsz9
  obtain ⟨x11, ll11, rfl, hsz11⟩ := cons_of hsz10
  obtain ⟨x12, ll12, rfl, hsz12⟩ := cons_of hsz11
  obtain ⟨x13, ll13, rfl, hsz13⟩ := cons_of hsz12
  obtain ⟨x14, ll14, rfl, hsz14⟩ := cons_of hsz13
  obtain ⟨x15, ll15, rfl, hsz15⟩ := cons_of hsz14
  obtain ⟨x16, ll16, rfl, hsz16⟩ := cons_of hsz15
  obtain rfl := List.eq_nil_of_length_eq_zero hsz16
  obtain rfl : x1 = .int .i64 E := hf.same 1 (by decide)
  obtain rfl : x3 = .int .i64 x := hf.same 3 (by decide)
  obtain rfl : x4 = .pointer (some ⟨w.heap.size, 0, none⟩) := hf.same 4 (by decide)
  obtain rfl : x6 = .pointer (some ⟨w.heap.size + 1, 0, none⟩) := hf.same 6 (by decide)
  obtain rfl : x8 = .pointer (some ⟨w.heap.size + 2, 0, none⟩) := hf.same 8 (by decide)
  obtain rfl : x9 = .agg #[.int .i64 s, .int .i64 ww, .int .i64 t, .int .i64 en] := hall 0 9 rfl
  obtain rfl : x10 = .int .i64 E := hall 1 10 rfl
  obtain rfl : x11 = .int .i64 dd := hall 2 11 rfl
  obtain rfl : x12 = .agg #[.int .i64 s, .int .i64 ww, .int .i64 t, .int .i64 en] := hall 3 12 rfl
  obtain rfl : x13 = .agg #[.slice A n c, .int .i64 S] := hall 4 13 rfl
  obtain rfl : x14 = .int .i64 x := hall 5 14 rfl
  obtain rfl : x16 = .agg #[.int .i64 nn, .int .i64 de] := hall 7 16 rfl
  clear hall hf
  intro o ho
  have ho2 : _ = o := Option.some.inj ho
  subst ho2
  clear ho
  obtain ⟨c0, c1, c2, c3, c4, c5, c6, c7, z2_0, z2_1⟩ := HC.out wx hb
  simp [Oper.wp, Oper.upon, execOp, Act.eval, go_sem, c6, c7, z2_0, z2_1]
  go_wp2
  refine bodyPost_ret (v := .agg #[.int .i64 nn, .int .i64 de]) (by simp [results, Try.results105, go_sem, c6, c7]) rfl ⟨rfl, ?_⟩
  exact ((HB0.out.trans (hb.mono HB0.out.size)).setCell (p := ⟨w.heap.size + 2, 0, none⟩) (by simp) _).setCell (p := ⟨w.heap.size + 2, 1, none⟩) (by simp) _
/-- What a function hands back that checks first: a fraction, or the error beside nothing. -/
def fr1 (e n d : Int) : Value := bif e == 0 then .tuple #[frV n d, .int .i64 0] else .tuple #[.agg #[.int .i64 0, .int .i64 0], .int .i64 e]
theorem fr1_ok {n d : Int} : fr1 0 n d = .tuple #[frV n d, .int .i64 0] := rfl
theorem fr1_bad {e n d : Int} (h : e ≠ 0) : fr1 e n d = .tuple #[.agg #[.int .i64 0, .int .i64 0], .int .i64 e] := by
  unfold fr1
  rw [show (e == 0) = false from by simpa using h]; rfl
def sagE (b : Bm) (l : List Pt) (S E x : Int) : Int := firstE [burE b l S, rngE 1 30000 [E], rngE 0 b.s [x]]
theorem sagE_ok {b : Bm} {l : List Pt} {S E x : Int} : sagE b l S E x = 0 ↔ (BmOk b ∧ WtOk b.s l S) ∧ (1 ≤ E ∧ E ≤ 30000) ∧ (0 ≤ x ∧ x ≤ b.s) := by
  unfold sagE
  rw [firstE_ok]
  simp only [List.mem_cons, List.not_mem_nil, or_false, forall_eq_or_imp, forall_eq, burE_ok, rngE_ok]
set_option maxHeartbeats 4000000 in
set_option maxRecDepth 20000 in
theorem sagF_any {b : Bm} {A : Option Addr} {n c : Nat} {S E x : Int} {l : List Pt} (w : World) (h : PtRow w A n l) (hn : n ≤ maxLen) :
    Calls Try.prog 39 #[bmV b, .int .i64 E, buV A n c S, .int .i64 x] w fun e w' => e = .returned (fr1 (sagE b l S E x) (sag b l S x) (sgD b E)) ∧ Below w.heap.size w w' := by
  have CB := Lib.hid (fun wx (hx : Below w.heap.size w wx) => checkBurden_any (b := b) (c := c) (S := S) wx (h.below hx) hn)
  have CP := fun wx => Lib.hid (checkPlace_any b x wx)
  have C1 := fun wx b (h : IntRow wx (some ⟨b, 0, none⟩) 1 [E]) => Lib.hid (checkRange_any (c := 1) (lo := 1) (hi := 30000) wx h (by decide))
  have SA := Lib.hid (fun (he : sagE b l S E x = 0) wx (hx : Below w.heap.size w wx) => let h' := sagE_ok.1 he; sagAt_any (c := c) h'.1.1 h'.1.2 h'.2.1.1 h'.2.1.2 h'.2.2.1 h'.2.2.2 wx (h.below hx))
  have HE : Hid (sagE b l S E x = firstE [burE b l S, rngE 1 30000 [E], rngE 0 b.s [x]]) := Lib.hid rfl
  clear h hn
  obtain ⟨s, ww, t, en⟩ := b
  unfold bmV buV frV at *
  simp only at CB CP SA HE ⊢
  generalize sag ⟨s, ww, t, en⟩ l S x = nu at *
  generalize sgD ⟨s, ww, t, en⟩ E = dd at *
  generalize sagE ⟨s, ww, t, en⟩ l S E x = ee at *
  generalize burE ⟨s, ww, t, en⟩ l S = e1 at *
  generalize rngE 1 30000 [E] = e2 at *
  generalize rngE 0 s [x] = e3 at *
  have C3 := fun wx b (h : IntRow wx (some ⟨b, 0, none⟩) 3 [e1, e2, e3]) => Lib.hid (firstError_any (c := 3) wx h (by decide))
  rw [← HE.out] at C3
  clear HE
  go_enter Try.func39, Try.ntmps39
  go_wp2
  obtain ⟨w0, hw0⟩ : ∃ w0, (((w.alloc (.cells #[.int .i64 s, .int .i64 ww, .int .i64 t, .int .i64 en] 23)).alloc (.cells #[.slice A n c, .int .i64 S] 26)).alloc (.cells #[.int .i64 0, .int .i64 0] 30)) = w0 := ⟨_, rfl⟩
  have HB0 : Hid (Below w.heap.size w w0) := Lib.hid (by rw [← hw0]; exact ((((Below.refl _ _).alloc (Nat.le_refl _) _).alloc (by simp; try omega) _).alloc (by simp; try omega) _))
  have HC := Lib.hid (fun wx (hb : Below w0.heap.size w0 wx) => (show wx.cell? ⟨w.heap.size, 0, none⟩ = some (.int .i64 s) ∧ wx.cell? ⟨w.heap.size, 1, none⟩ = some (.int .i64 ww) ∧ wx.cell? ⟨w.heap.size, 2, none⟩ = some (.int .i64 t) ∧ wx.cell? ⟨w.heap.size, 3, none⟩ = some (.int .i64 en) ∧ wx.cell? ⟨w.heap.size + 1, 0, none⟩ = some (.slice A n c) ∧ wx.cell? ⟨w.heap.size + 1, 1, none⟩ = some (.int .i64 S) ∧ wx.cell? ⟨w.heap.size + 2, 0, none⟩ = some (.int .i64 0) ∧ wx.cell? ⟨w.heap.size + 2, 1, none⟩ = some (.int .i64 0) ∧ wx.frozen? ⟨w.heap.size + 2, 0, none⟩ = false ∧ wx.frozen? ⟨w.heap.size + 2, 1, none⟩ = false from by
    subst hw0
    obtain ⟨k, kf⟩ := bcell hb
    exact ⟨(k _ _ (by simp; try omega)).trans (by simp [go_sem]), (k _ _ (by simp; try omega)).trans (by simp [go_sem]), (k _ _ (by simp; try omega)).trans (by simp [go_sem]), (k _ _ (by simp; try omega)).trans (by simp [go_sem]), (k _ _ (by simp; try omega)).trans (by simp [go_sem]), (k _ _ (by simp; try omega)).trans (by simp [go_sem]), (k _ _ (by simp; try omega)).trans (by simp [go_sem]), (k _ _ (by simp; try omega)).trans (by simp [go_sem]), (kf _ _ (by simp; try omega)).trans (by simp [go_sem]), (kf _ _ (by simp; try omega)).trans (by simp [go_sem])⟩))
  rw [hw0]
  clear hw0
  refine wp_region_rk [11, 12, 13, 14, 15, 16, 17, 18, 19, 20, 21, 10] [rEq (.agg #[.int .i64 s, .int .i64 ww, .int .i64 t, .int .i64 en]), rEq (.agg #[.slice A n c, .int .i64 S]), rEq (.int .i64 e1), rEq (.int .i64 E), rRow [E] 1, rEq (.int .i64 e2), rEq (.agg #[.int .i64 s, .int .i64 ww, .int .i64 t, .int .i64 en]), rEq (.int .i64 x), rEq (.int .i64 e3), rRow [e1, e2, e3] 3, rEq (.int .i64 ee), rEq (.int .i64 ee)] (by kernel_rfl) (by kernel_rfl) (by decide) rfl ⟨?_, ?_, ?_, ?_, ?_, ?_, ?_, ?_, ?_, ?_, ?_, ?_, trivial⟩ ?_
  · intro ac wx hf hb hd -- 0
    have f4 : ac.tmps[4]?.getD undef = .pointer (some ⟨w.heap.size, 0, none⟩) := by rw [← Array.getD_eq_getD_getElem?]; exact hf.same 4 (by decide)
    obtain ⟨c0, c1, c2, c3, c4, c5, c6, c7, z2_0, z2_1⟩ := HC.out wx hb
    exact rstep_eq (by simp [execOp, Act.eval, f4, c0, c1, c2, c3, go_sem]) rfl
  · intro ac wx hf hb hd -- 1
    have f6 : ac.tmps[6]?.getD undef = .pointer (some ⟨w.heap.size + 1, 0, none⟩) := by rw [← Array.getD_eq_getD_getElem?]; exact hf.same 6 (by decide)
    obtain ⟨c0, c1, c2, c3, c4, c5, c6, c7, z2_0, z2_1⟩ := HC.out wx hb
    exact rstep_eq (by simp [execOp, Act.eval, f6, c4, c5, go_sem]) rfl
  · intro ac wx hf hb hd -- 2
    have d0 : ac.tmps[11]?.getD undef = .agg #[.int .i64 s, .int .i64 ww, .int .i64 t, .int .i64 en] := by rw [← Array.getD_eq_getD_getElem?]; exact hd 0 (by decide)
    have d1 : ac.tmps[12]?.getD undef = .agg #[.slice A n c, .int .i64 S] := by rw [← Array.getD_eq_getD_getElem?]; exact hd 1 (by decide)
    refine rstep_call (f := 26) (args := #[.agg #[.int .i64 s, .int .i64 ww, .int .i64 t, .int .i64 en], .agg #[.slice A n c, .int .i64 S]]) (by simp [Act.eval, d0, d1, go_sem]) ?_ rfl
    exact CB.out wx (HB0.out.trans (hb.mono HB0.out.size))
  · intro ac wx hf hb hd -- 3
    have f1 : ac.tmps[1]?.getD undef = .int .i64 E := by rw [← Array.getD_eq_getD_getElem?]; exact hf.same 1 (by decide)
    exact rstep_eq (by simp [execOp, Act.eval, f1, go_sem]) rfl
  · intro ac wx hf hb hd -- 4
    have d3 : ac.tmps[14]?.getD undef = .int .i64 E := by rw [← Array.getD_eq_getD_getElem?]; exact hd 3 (by decide)
    exact rstep_row (t := 3) (zs := [E]) rfl rfl (by simp [execOp, Act.eval, d3, go_sem]) rfl
  · intro ac wx hf hb hd -- 5
    obtain ⟨b4, d4, r4⟩ : ∃ b, ac.tmps[15]?.getD undef = .slice (some ⟨b, 0, none⟩) 1 1 ∧ IntRow wx (some ⟨b, 0, none⟩) 1 [E] := by rw [← Array.getD_eq_getD_getElem?]; exact hd 4 (by decide)
    refine rstep_call (f := 96) (args := #[.int .i64 1, .int .i64 30000, .slice (some ⟨b4, 0, none⟩) 1 1]) (by simp [Act.eval, d4, go_sem]) ?_ rfl
    exact (C1 wx b4 r4).out.mono fun e w' ⟨he, hw⟩ => ⟨he, hw ▸ Below.refl _ _⟩
  · intro ac wx hf hb hd -- 6
    have f4 : ac.tmps[4]?.getD undef = .pointer (some ⟨w.heap.size, 0, none⟩) := by rw [← Array.getD_eq_getD_getElem?]; exact hf.same 4 (by decide)
    obtain ⟨c0, c1, c2, c3, c4, c5, c6, c7, z2_0, z2_1⟩ := HC.out wx hb
    exact rstep_eq (by simp [execOp, Act.eval, f4, c0, c1, c2, c3, go_sem]) rfl
  · intro ac wx hf hb hd -- 7
    have f3 : ac.tmps[3]?.getD undef = .int .i64 x := by rw [← Array.getD_eq_getD_getElem?]; exact hf.same 3 (by decide)
    exact rstep_eq (by simp [execOp, Act.eval, f3, go_sem]) rfl
  · intro ac wx hf hb hd -- 8
    have d6 : ac.tmps[17]?.getD undef = .agg #[.int .i64 s, .int .i64 ww, .int .i64 t, .int .i64 en] := by rw [← Array.getD_eq_getD_getElem?]; exact hd 6 (by decide)
    have d7 : ac.tmps[18]?.getD undef = .int .i64 x := by rw [← Array.getD_eq_getD_getElem?]; exact hd 7 (by decide)
    refine rstep_call (f := 99) (args := #[.agg #[.int .i64 s, .int .i64 ww, .int .i64 t, .int .i64 en], .int .i64 x]) (by simp [Act.eval, d6, d7, go_sem]) ?_ rfl
    exact (CP wx).out
  · intro ac wx hf hb hd -- 9
    have d2 : ac.tmps[13]?.getD undef = .int .i64 e1 := by rw [← Array.getD_eq_getD_getElem?]; exact hd 2 (by decide)
    have d5 : ac.tmps[16]?.getD undef = .int .i64 e2 := by rw [← Array.getD_eq_getD_getElem?]; exact hd 5 (by decide)
    have d8 : ac.tmps[19]?.getD undef = .int .i64 e3 := by rw [← Array.getD_eq_getD_getElem?]; exact hd 8 (by decide)
    exact rstep_row (t := 31) (zs := [e1, e2, e3]) rfl rfl (by simp [execOp, Act.eval, d2, d5, d8, go_sem]) rfl
  · intro ac wx hf hb hd -- 10
    obtain ⟨b9, d9, r9⟩ : ∃ b, ac.tmps[20]?.getD undef = .slice (some ⟨b, 0, none⟩) 3 3 ∧ IntRow wx (some ⟨b, 0, none⟩) 3 [e1, e2, e3] := by rw [← Array.getD_eq_getD_getElem?]; exact hd 9 (by decide)
    refine rstep_call (f := 95) (args := #[.slice (some ⟨b9, 0, none⟩) 3 3]) (by simp [Act.eval, d9, go_sem]) ?_ rfl
    exact (C3 wx b9 r9).out.mono fun e w' ⟨he, hw⟩ => ⟨he, hw ▸ Below.refl _ _⟩
  · intro ac wx hf hb hd -- 11
    have d10 : ac.tmps[21]?.getD undef = .int .i64 ee := by rw [← Array.getD_eq_getD_getElem?]; exact hd 10 (by decide)
    exact rstep_eq (by simp [execOp, Act.eval, d10, go_sem]) rfl
  rintro ⟨⟨ll⟩, df⟩ wx hf hb hall
  have hdf : df = [] := hf.defers
  subst hdf
  have hsz : ll.length = 31 := hf.size
  obtain ⟨x0, ll0, rfl, hsz0⟩ := cons_of hsz
  obtain ⟨x1, ll1, rfl, hsz1⟩ := cons_of hsz0
  obtain ⟨x2, ll2, rfl, hsz2⟩ := cons_of hsz1
  obtain ⟨x3, ll3, rfl, hsz3⟩ := cons_of hsz2
  obtain ⟨x4, ll4, rfl, hsz4⟩ := cons_of hsz3
  obtain ⟨x5, ll5, rfl, hsz5⟩ := cons_of hsz4
  obtain ⟨x6, ll6, rfl, hsz6⟩ := cons_of hsz5
  obtain ⟨x7, ll7, rfl, hsz7⟩ := cons_of hsz6
  obtain ⟨x8, ll8, rfl, hsz8⟩ := cons_of hsz7
  obtain ⟨x9, ll9, rfl, hsz9⟩ := cons_of hsz8
  obtain ⟨x10, ll10, rfl, hsz10⟩ := cons_of hsz9
  obtain ⟨x11, ll11, rfl, hsz11⟩ := cons_of hsz10
  obtain ⟨x12, ll12, rfl, hsz12⟩ := cons_of hsz11
  obtain ⟨x13, ll13, rfl, hsz13⟩ := cons_of hsz12
  obtain ⟨x14, ll14, rfl, hsz14⟩ := cons_of hsz13
  obtain ⟨x15, ll15, rfl, hsz15⟩ := cons_of hsz14
  obtain ⟨x16, ll16, rfl, hsz16⟩ := cons_of hsz15
  obtain ⟨x17, ll17, rfl, hsz17⟩ := cons_of hsz16
  obtain ⟨x18, ll18, rfl, hsz18⟩ := cons_of hsz17
  obtain ⟨x19, ll19, rfl, hsz19⟩ := cons_of hsz18
  obtain ⟨x20, ll20, rfl, hsz20⟩ := cons_of hsz19
  obtain ⟨x21, ll21, rfl, hsz21⟩ := cons_of hsz20
  obtain ⟨x22, ll22, rfl, hsz22⟩ := cons_of hsz21
  obtain ⟨x23, ll23, rfl, hsz23⟩ := cons_of hsz22
  obtain ⟨x24, ll24, rfl, hsz24⟩ := cons_of hsz23
  obtain ⟨x25, ll25, rfl, hsz25⟩ := cons_of hsz24
  obtain ⟨x26, ll26, rfl, hsz26⟩ := cons_of hsz25
  obtain ⟨x27, ll27, rfl, hsz27⟩ := cons_of hsz26
  obtain ⟨x28, ll28, rfl, hsz28⟩ := cons_of hsz27
  obtain ⟨x29, ll29, rfl, hsz29⟩ := cons_of hsz28
  obtain ⟨x30, ll30, rfl, hsz30⟩ := cons_of hsz29
  obtain rfl := List.eq_nil_of_length_eq_zero hsz30
  obtain rfl : x1 = .int .i64 E := hf.same 1 (by decide)
  obtain rfl : x3 = .int .i64 x := hf.same 3 (by decide)
  obtain rfl : x4 = .pointer (some ⟨w.heap.size, 0, none⟩) := hf.same 4 (by decide)
  obtain rfl : x6 = .pointer (some ⟨w.heap.size + 1, 0, none⟩) := hf.same 6 (by decide)
  obtain rfl : x8 = .pointer (some ⟨w.heap.size + 2, 0, none⟩) := hf.same 8 (by decide)
  obtain rfl : x10 = .int .i64 ee := hall 11 10 rfl
  obtain rfl : x11 = .agg #[.int .i64 s, .int .i64 ww, .int .i64 t, .int .i64 en] := hall 0 11 rfl
  obtain rfl : x12 = .agg #[.slice A n c, .int .i64 S] := hall 1 12 rfl
  obtain rfl : x13 = .int .i64 e1 := hall 2 13 rfl
  obtain rfl : x14 = .int .i64 E := hall 3 14 rfl
  obtain rfl : x16 = .int .i64 e2 := hall 5 16 rfl
  obtain rfl : x17 = .agg #[.int .i64 s, .int .i64 ww, .int .i64 t, .int .i64 en] := hall 6 17 rfl
  obtain rfl : x18 = .int .i64 x := hall 7 18 rfl
  obtain rfl : x19 = .int .i64 e3 := hall 8 19 rfl
  obtain rfl : x21 = .int .i64 ee := hall 10 21 rfl
  clear hall hf
  obtain ⟨c0, c1, c2, c3, c4, c5, c6, c7, z2_0, z2_1⟩ := HC.out wx hb
  have HBX := Lib.hid (HB0.out.trans (hb.mono HB0.out.size))
  by_cases he : ee = 0
  · subst he
    have SA' := SA.out rfl
    have HN : Hid (frV nu dd = .agg #[.int .i64 (lowN nu dd), .int .i64 (lowD nu dd)]) := Lib.hid rfl
    generalize lowN nu dd = nn at *
    generalize lowD nu dd = de at *
    have SA2 := Lib.hid SA'
    clear SA SA'
    go_wp2_with (go_at_call 105; (refine Calls.mono (SA2.out _ HBX.out) ?_); rintro e w2 ⟨rfl, hb2⟩; obtain ⟨e0, e1, e2, e3, e4, e5, e6, e7, y2_0, y2_1⟩ := HC.out w2 (hb.trans (hb2.mono hb.size)))
    refine bodyPost_ret (v := .tuple #[.agg #[.int .i64 nn, .int .i64 de], .int .i64 0]) (by simp [results, Try.results39, go_sem, e6, e7]) rfl ⟨by rw [fr1_ok, HN.out], ?_⟩
    exact ((HBX.out.trans (hb2.mono HBX.out.size)).setCell (p := ⟨w.heap.size + 2, 0, none⟩) (by simp) _).setCell (p := ⟨w.heap.size + 2, 1, none⟩) (by simp) _
  · have e1' : (ee == 0) = false := by simpa using he
    have e2' : (ee != 0) = true := by simpa using he
    go_wp2
    refine bodyPost_ret (v := .tuple #[.agg #[.int .i64 0, .int .i64 0], .int .i64 ee]) (by simp [results, Try.results39, go_sem, c6, c7]) rfl ⟨by rw [fr1_bad he], ?_⟩
    exact (HBX.out.setCell (p := ⟨w.heap.size + 2, 0, none⟩) (by simp) _).setCell (p := ⟨w.heap.size + 2, 1, none⟩) (by simp) _
end Go.Proofs.Ytablphoicidlkaa
