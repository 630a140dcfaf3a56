/- Walks over beams: the range of sags. -/
import Derived.BigRegion
import Derived.Test.YtablphoicidlkaaSP
import Derived.Test.YtablphoicidlkaaRJ
namespace Go.Proofs.Ytablphoicidlkaa
open Go.RowKit

def srE (b : Bm) (l : List Pt) (S : Int) (x : Wd) (y : Int) : Int := firstE [burE b l S, woodE x, rngE 0 b.s [y]]
theorem srE_ok {b : Bm} {l : List Pt} {S y : Int} {x : Wd} : srE b l S x y = 0 ↔ (BmOk b ∧ WtOk b.s l S) ∧ WdOk x ∧ (0 ≤ y ∧ y ≤ b.s) := by
  unfold srE
  rw [firstE_ok]
  simp only [List.mem_cons, List.not_mem_nil, or_false, forall_eq_or_imp, forall_eq, burE_ok, rngE_ok, woodE_ok]
/-- The denominators of the least and of the greatest sag. -/
def loD (b : Bm) (x : Wd) (v : Int) : Int := bif decide (v < 0) then sgD b x.lo else sgD b x.hi
def hiD (b : Bm) (x : Wd) (v : Int) : Int := bif decide (v < 0) then sgD b x.hi else sgD b x.lo
/-- Two fractions, or the error beside nothing. -/
def fr3 (e n d n' d' : Int) : Value := bif e == 0 then .tuple #[frV n d, frV n' d', .int .i64 0] else .tuple #[.agg #[.int .i64 0, .int .i64 0], .agg #[.int .i64 0, .int .i64 0], .int .i64 e]
theorem fr3_ok {n d n' d' : Int} : fr3 0 n d n' d' = .tuple #[frV n d, frV n' d', .int .i64 0] := rfl
theorem fr3_bad {e n d n' d' : Int} (h : e ≠ 0) : fr3 e n d n' d' = .tuple #[.agg #[.int .i64 0, .int .i64 0], .agg #[.int .i64 0, .int .i64 0], .int .i64 e] := by
  unfold fr3
  rw [show (e == 0) = false from by simpa using h]; rfl
theorem lowN_neg {n d : Int} (hd : 0 < d) : lowN n d < 0 ↔ n < 0 := by
  have h1 := lowN_mul n d
  have h2 : (0 : Int) < (lowG n d : Int) := by have := lowG_pos (n := n) hd; omega
  constructor
  · intro h
    have := Int.mul_neg_of_neg_of_pos h h2
    omega
  · intro h
    rcases Int.lt_or_le (lowN n d) 0 with h3 | h3
    · exact h3
    · have := Int.mul_nonneg h3 (Int.le_of_lt h2)
      omega
set_option maxHeartbeats 16000000 in
set_option maxRecDepth 20000 in
theorem sagRangeF_any {b : Bm} {x : Wd} {A : Option Addr} {n c : Nat} {S y : Int} {l : List Pt} (w : World) (h : PtRow w A n l) (hn : n ≤ maxLen) :
    Calls Try.prog 51 #[bmV b, wdV x, buV A n c S, .int .i64 y] w fun e w' => e = .returned (fr3 (srE b l S x y) (sag b l S y) (loD b x (sag b l S y)) (sag b l S y) (hiD b x (sag b l S y))) ∧ Below w.heap.size w w' := by
  have CB := Lib.hid (fun wx (hx : Below w.heap.size w wx) => checkBurden_any (b := b) (c := c) (S := S) wx (h.below hx) hn)
  have CW := fun wx => Lib.hid (checkWood_any x wx)
  have CP := fun wx => Lib.hid (checkPlace_any b y wx)
  have SA := Lib.hid (fun (he : srE b l S x y = 0) wx (hx : Below w.heap.size w wx) => let h' := srE_ok.1 he; sagAt_any (E := x.lo) (c := c) h'.1.1 h'.1.2 h'.2.1.l0 (Int.le_trans h'.2.1.l1 h'.2.1.h1) h'.2.2.1 h'.2.2.2 wx (h.below hx))
  have SB := Lib.hid (fun (he : srE b l S x y = 0) wx (hx : Below w.heap.size w wx) => let h' := srE_ok.1 he; sagAt_any (E := x.hi) (c := c) h'.1.1 h'.1.2 (Int.le_trans h'.2.1.l0 h'.2.1.l1) h'.2.1.h1 h'.2.2.1 h'.2.2.2 wx (h.below hx))
  have HNG := Lib.hid (fun (he : srE b l S x y = 0) => let h' := srE_ok.1 he; lowN_neg (n := sag b l S y) (sgD_bd (E := x.lo) h'.1.1 h'.2.1.l0 (Int.le_trans h'.2.1.l1 h'.2.1.h1)).1)
  have HE : Hid (srE b l S x y = firstE [burE b l S, woodE x, rngE 0 b.s [y]]) := Lib.hid rfl
  have HL : Hid (loD b x (sag b l S y) = bif decide (sag b l S y < 0) then sgD b x.lo else sgD b x.hi) := Lib.hid rfl
  have HI : Hid (hiD b x (sag b l S y) = bif decide (sag b l S y < 0) then sgD b x.hi else sgD b x.lo) := Lib.hid rfl
  clear h hn
  obtain ⟨s, ww, t, en⟩ := b
  obtain ⟨lo, hi, st⟩ := x
  unfold bmV wdV buV frV at *
  simp only at CB CW CP SA SB HNG HE HL HI ⊢
  generalize loD ⟨s, ww, t, en⟩ ⟨lo, hi, st⟩ (sag ⟨s, ww, t, en⟩ l S y) = dl at *
  generalize hiD ⟨s, ww, t, en⟩ ⟨lo, hi, st⟩ (sag ⟨s, ww, t, en⟩ l S y) = dh at *
  generalize sag ⟨s, ww, t, en⟩ l S y = nu at *
  generalize sgD ⟨s, ww, t, en⟩ lo = d1 at *
  generalize sgD ⟨s, ww, t, en⟩ hi = d2 at *
  generalize srE ⟨s, ww, t, en⟩ l S ⟨lo, hi, st⟩ y = ee at *
  generalize burE ⟨s, ww, t, en⟩ l S = e1 at *
  generalize woodE ⟨lo, hi, st⟩ = e2 at *
  generalize rngE 0 s [y] = e3 at *
  have C3 := fun wx b (h : IntRow wx (some ⟨b, 0, none⟩) 3 [e1, e2, e3]) => Lib.hid (firstError_any (c := 3) wx h (by decide))
  rw [← HE.out] at C3
  clear HE
  go_enter Try.func51, Try.ntmps51
  go_wp2
  obtain ⟨w0, hw0⟩ : ∃ w0, (((((w.alloc (.cells #[.int .i64 s, .int .i64 ww, .int .i64 t, .int .i64 en] 23)).alloc (.cells #[.int .i64 lo, .int .i64 hi, .int .i64 st] 79)).alloc (.cells #[.slice A n c, .int .i64 S] 26)).alloc (.cells #[.int .i64 0, .int .i64 0] 30)).alloc (.cells #[.int .i64 0, .int .i64 0] 30)) = w0 := ⟨_, rfl⟩
  have HB0 : Hid (Below w.heap.size w w0) := Lib.hid (by rw [← hw0]; exact ((((((Below.refl _ _).alloc (Nat.le_refl _) _).alloc (by simp; try omega) _).alloc (by simp; try omega) _).alloc (by simp; try omega) _).alloc (by simp; try omega) _))
  have HC := Lib.hid (fun wx (hb : Below w0.heap.size w0 wx) => (show wx.cell? ⟨w.heap.size, 0, none⟩ = some (.int .i64 s) ∧ wx.cell? ⟨w.heap.size, 1, none⟩ = some (.int .i64 ww) ∧ wx.cell? ⟨w.heap.size, 2, none⟩ = some (.int .i64 t) ∧ wx.cell? ⟨w.heap.size, 3, none⟩ = some (.int .i64 en) ∧ wx.cell? ⟨w.heap.size + 1, 0, none⟩ = some (.int .i64 lo) ∧ wx.cell? ⟨w.heap.size + 1, 1, none⟩ = some (.int .i64 hi) ∧ wx.cell? ⟨w.heap.size + 1, 2, none⟩ = some (.int .i64 st) ∧ wx.cell? ⟨w.heap.size + 2, 0, none⟩ = some (.slice A n c) ∧ wx.cell? ⟨w.heap.size + 2, 1, none⟩ = some (.int .i64 S) ∧ wx.cell? ⟨w.heap.size + 3, 0, none⟩ = some (.int .i64 0) ∧ wx.cell? ⟨w.heap.size + 3, 1, none⟩ = some (.int .i64 0) ∧ wx.cell? ⟨w.heap.size + 4, 0, none⟩ = some (.int .i64 0) ∧ wx.cell? ⟨w.heap.size + 4, 1, none⟩ = some (.int .i64 0) ∧ wx.frozen? ⟨w.heap.size + 3, 0, none⟩ = false ∧ wx.frozen? ⟨w.heap.size + 3, 1, none⟩ = false ∧ wx.frozen? ⟨w.heap.size + 4, 0, none⟩ = false ∧ wx.frozen? ⟨w.heap.size + 4, 1, none⟩ = false from by
    subst hw0
    obtain ⟨k, kf⟩ := bcell hb
    exact ⟨(k _ _ (by simp; try omega)).trans (by simp [go_sem]), (k _ _ (by simp; try omega)).trans (by simp [go_sem]), (k _ _ (by simp; try omega)).trans (by simp [go_sem]), (k _ _ (by simp; try omega)).trans (by simp [go_sem]), (k _ _ (by simp; try omega)).trans (by simp [go_sem]), (k _ _ (by simp; try omega)).trans (by simp [go_sem]), (k _ _ (by simp; try omega)).trans (by simp [go_sem]), (k _ _ (by simp; try omega)).trans (by simp [go_sem]), (k _ _ (by simp; try omega)).trans (by simp [go_sem]), (k _ _ (by simp; try omega)).trans (by simp [go_sem]), (k _ _ (by simp; try omega)).trans (by simp [go_sem]), (k _ _ (by simp; try omega)).trans (by simp [go_sem]), (k _ _ (by simp; try omega)).trans (by simp [go_sem]), (kf _ _ (by simp; try omega)).trans (by simp [go_sem]), (kf _ _ (by simp; try omega)).trans (by simp [go_sem]), (kf _ _ (by simp; try omega)).trans (by simp [go_sem]), (kf _ _ (by simp; try omega)).trans (by simp [go_sem])⟩))
  rw [hw0]
  clear hw0
  refine wp_region_rk [14, 15, 16, 17, 18, 19, 20, 21, 22, 23, 11] [rEq (.agg #[.int .i64 s, .int .i64 ww, .int .i64 t, .int .i64 en]), rEq (.agg #[.slice A n c, .int .i64 S]), rEq (.int .i64 e1), rEq (.agg #[.int .i64 lo, .int .i64 hi, .int .i64 st]), rEq (.int .i64 e2), rEq (.agg #[.int .i64 s, .int .i64 ww, .int .i64 t, .int .i64 en]), rEq (.int .i64 y), rEq (.int .i64 e3), rRow [e1, e2, e3] 3, rEq (.int .i64 ee), rEq (.int .i64 ee)] (by kernel_rfl) (by kernel_rfl) (by decide) rfl ⟨?_, ?_, ?_, ?_, ?_, ?_, ?_, ?_, ?_, ?_, ?_, trivial⟩ ?_
  · intro ac wx hf hb hd -- 0
    have f4 : ac.tmps[4]?.getD undef = .pointer (some ⟨w.heap.size, 0, none⟩) := by rw [← Array.getD_eq_getD_getElem?]; exact hf.same 4 (by decide)
    obtain ⟨c0, c1, c2, c3, c4, c5, c6, c7, c8, c9, c10, c11, c12, z3_0, z3_1, z4_0, z4_1⟩ := HC.out wx hb
    exact rstep_eq (by simp [execOp, Act.eval, f4, c0, c1, c2, c3, go_sem]) rfl
  · intro ac wx hf hb hd -- 1
    have f6 : ac.tmps[6]?.getD undef = .pointer (some ⟨w.heap.size + 2, 0, none⟩) := by rw [← Array.getD_eq_getD_getElem?]; exact hf.same 6 (by decide)
    obtain ⟨c0, c1, c2, c3, c4, c5, c6, c7, c8, c9, c10, c11, c12, z3_0, z3_1, z4_0, z4_1⟩ := HC.out wx hb
    exact rstep_eq (by simp [execOp, Act.eval, f6, c7, c8, go_sem]) rfl
  · intro ac wx hf hb hd -- 2
    have d0 : ac.tmps[14]?.getD undef = .agg #[.int .i64 s, .int .i64 ww, .int .i64 t, .int .i64 en] := by rw [← Array.getD_eq_getD_getElem?]; exact hd 0 (by decide)
    have d1 : ac.tmps[15]?.getD undef = .agg #[.slice A n c, .int .i64 S] := by rw [← Array.getD_eq_getD_getElem?]; exact hd 1 (by decide)
    refine rstep_call (f := 26) (args := #[.agg #[.int .i64 s, .int .i64 ww, .int .i64 t, .int .i64 en], .agg #[.slice A n c, .int .i64 S]]) (by simp [Act.eval, d0, d1, go_sem]) ?_ rfl
    exact CB.out wx (HB0.out.trans (hb.mono HB0.out.size))
  · intro ac wx hf hb hd -- 3
    have f5 : ac.tmps[5]?.getD undef = .pointer (some ⟨w.heap.size + 1, 0, none⟩) := by rw [← Array.getD_eq_getD_getElem?]; exact hf.same 5 (by decide)
    obtain ⟨c0, c1, c2, c3, c4, c5, c6, c7, c8, c9, c10, c11, c12, z3_0, z3_1, z4_0, z4_1⟩ := HC.out wx hb
    exact rstep_eq (by simp [execOp, Act.eval, f5, c4, c5, c6, go_sem]) rfl
  · intro ac wx hf hb hd -- 4
    have d3 : ac.tmps[17]?.getD undef = .agg #[.int .i64 lo, .int .i64 hi, .int .i64 st] := by rw [← Array.getD_eq_getD_getElem?]; exact hd 3 (by decide)
    refine rstep_call (f := 52) (args := #[.agg #[.int .i64 lo, .int .i64 hi, .int .i64 st]]) (by simp [Act.eval, d3, go_sem]) ?_ rfl
    exact (CW wx).out
  · intro ac wx hf hb hd -- 5
    have f4 : ac.tmps[4]?.getD undef = .pointer (some ⟨w.heap.size, 0, none⟩) := by rw [← Array.getD_eq_getD_getElem?]; exact hf.same 4 (by decide)
    obtain ⟨c0, c1, c2, c3, c4, c5, c6, c7, c8, c9, c10, c11, c12, z3_0, z3_1, z4_0, z4_1⟩ := HC.out wx hb
    exact rstep_eq (by simp [execOp, Act.eval, f4, c0, c1, c2, c3, go_sem]) rfl
  · intro ac wx hf hb hd -- 6
    have f3 : ac.tmps[3]?.getD undef = .int .i64 y := by rw [← Array.getD_eq_getD_getElem?]; exact hf.same 3 (by decide)
    exact rstep_eq (by simp [execOp, Act.eval, f3, go_sem]) rfl
  · intro ac wx hf hb hd -- 7
    have d5 : ac.tmps[19]?.getD undef = .agg #[.int .i64 s, .int .i64 ww, .int .i64 t, .int .i64 en] := by rw [← Array.getD_eq_getD_getElem?]; exact hd 5 (by decide)
    have d6 : ac.tmps[20]?.getD undef = .int .i64 y := by rw [← Array.getD_eq_getD_getElem?]; exact hd 6 (by decide)
    refine rstep_call (f := 99) (args := #[.agg #[.int .i64 s, .int .i64 ww, .int .i64 t, .int .i64 en], .int .i64 y]) (by simp [Act.eval, d5, d6, go_sem]) ?_ rfl
    exact (CP wx).out
  · intro ac wx hf hb hd -- 8
    have d2 : ac.tmps[16]?.getD undef = .int .i64 e1 := by rw [← Array.getD_eq_getD_getElem?]; exact hd 2 (by decide)
    have d4 : ac.tmps[18]?.getD undef = .int .i64 e2 := by rw [← Array.getD_eq_getD_getElem?]; exact hd 4 (by decide)
    have d7 : ac.tmps[21]?.getD undef = .int .i64 e3 := by rw [← Array.getD_eq_getD_getElem?]; exact hd 7 (by decide)
    exact rstep_row (t := 31) (zs := [e1, e2, e3]) rfl rfl (by simp [execOp, Act.eval, d2, d4, d7, go_sem]) rfl
  · intro ac wx hf hb hd -- 9
    obtain ⟨b8, d8, r8⟩ : ∃ b, ac.tmps[22]?.getD undef = .slice (some ⟨b, 0, none⟩) 3 3 ∧ IntRow wx (some ⟨b, 0, none⟩) 3 [e1, e2, e3] := by rw [← Array.getD_eq_getD_getElem?]; exact hd 8 (by decide)
    refine rstep_call (f := 95) (args := #[.slice (some ⟨b8, 0, none⟩) 3 3]) (by simp [Act.eval, d8, go_sem]) ?_ rfl
    exact (C3 wx b8 r8).out.mono fun e w' ⟨he, hw⟩ => ⟨he, hw ▸ Below.refl _ _⟩
  · intro ac wx hf hb hd -- 10
    have d9 : ac.tmps[23]?.getD undef = .int .i64 ee := by rw [← Array.getD_eq_getD_getElem?]; exact hd 9 (by decide)
    exact rstep_eq (by simp [execOp, Act.eval, d9, go_sem]) rfl
  rintro ⟨⟨ll⟩, df⟩ wy hf hby hall
  have hdf : df = [] := hf.defers
  subst hdf
  have hsz : ll.length = 48 := hf.size
  obtain ⟨x0, ll0, rfl, hsz0⟩ := cons_of hsz
  obtain ⟨x1, ll1, rfl, hsz1⟩ := cons_of hsz0
  obtain ⟨x2, ll2, rfl, hsz2⟩ := cons_of hsz1
  obtain ⟨x3, ll3, rfl, hsz3⟩ := cons_of hsz2
  obtain ⟨x4, ll4, rfl, hsz4⟩ := cons_of hsz3
  obtain ⟨x5, ll5, rfl, hsz5⟩ := cons_of hsz4
  obtain ⟨x6, ll6, rfl, hsz6⟩ := cons_of hsz5
  obtain ⟨x7, ll7, rfl, hsz7⟩ := cons_of hsz6
  obtain ⟨x8, ll8, rfl, hsz8⟩ := cons_of hsz7
  obtain ⟨x9, ll9, rfl, hsz9⟩ := cons_of hsz8
  obtain ⟨x10, ll10, rfl, hsz10⟩ := cons_of hsz9
  obtain ⟨x11, ll11, rfl, hsz11⟩ := cons_of hsz10
  obtain ⟨x12, ll12, rfl, hsz12⟩ := cons_of hsz11
  obtain ⟨x13, ll13, rfl, hsz13⟩ := cons_of hsz12
  obtain ⟨x14, ll14, rfl, hsz14⟩ := cons_of hsz13
  obtain ⟨x15, ll15, rfl, hsz15⟩ := cons_of hsz14
  obtain ⟨x16, ll16, rfl, hsz16⟩ := cons_of hsz15
  obtain ⟨x17, ll17, rfl, hsz17⟩ := cons_of hsz16
  obtain ⟨x18, ll18, rfl, hsz18⟩ := cons_of hsz17
  obtain ⟨x19, ll19, rfl, hsz19⟩ := cons_of hsz18
  obtain ⟨x20, ll20, rfl, hsz20⟩ := cons_of hsz19
  obtain ⟨x21, ll21, rfl, hsz21⟩ := cons_of hsz20
  obtain ⟨x22, ll22, rfl, hsz22⟩ := cons_of hsz21
  obtain ⟨x23, ll23, rfl, hsz23⟩ := cons_of hsz22
  obtain ⟨x24, ll24, rfl, hsz24⟩ := cons_of hsz23
  obtain ⟨x25, ll25, rfl, hsz25⟩ := cons_of hsz24
  obtain ⟨x26, ll26, rfl, hsz26⟩ := cons_of hsz25
  obtain ⟨x27, ll27, rfl, hsz27⟩ := cons_of hsz26
  obtain ⟨x28, ll28, rfl, hsz28⟩ := cons_of hsz27
  obtain ⟨x29, ll29, rfl, hsz29⟩ := cons_of hsz28
  obtain ⟨x30, ll30, rfl, hsz30⟩ := cons_of hsz29
  obtain ⟨x31, ll31, rfl, hsz31⟩ := cons_of hsz30
  obtain ⟨x32, ll32, rfl, hsz32⟩ := cons_of hsz31
  obtain ⟨x33, ll33, rfl, hsz33⟩ := cons_of hsz32
  obtain ⟨x34, ll34, rfl, hsz34⟩ := cons_of hsz33
  obtain ⟨x35, ll35, rfl, hsz35⟩ := cons_of hsz34
  obtain ⟨x36, ll36, rfl, hsz36⟩ := cons_of hsz35
  obtain ⟨x37, ll37, rfl, hsz37⟩ := cons_of hsz36
  obtain ⟨x38, ll38, rfl, hsz38⟩ := cons_of hsz37
  obtain ⟨x39, ll39, rfl, hsz39⟩ := cons_of hsz38
  obtain ⟨x40, ll40, rfl, hsz40⟩ := cons_of hsz39
  obtain ⟨x41, ll41, rfl, hsz41⟩ := cons_of hsz40
  obtain ⟨x42, ll42, rfl, hsz42⟩ := cons_of hsz41
  obtain ⟨x43, ll43, rfl, hsz43⟩ := cons_of hsz42
  obtain ⟨x44, ll44, rfl, hsz44⟩ := cons_of hsz43
  obtain ⟨x45, ll45, rfl, hsz45⟩ := cons_of hsz44
  obtain ⟨x46, ll46, rfl, hsz46⟩ := cons_of hsz45
  obtain ⟨x47, ll47, rfl, hsz47⟩ := cons_of hsz46
  obtain rfl := List.eq_nil_of_length_eq_zero hsz47
  obtain rfl : x3 = .int .i64 y := hf.same 3 (by decide)
  obtain rfl : x4 = .pointer (some ⟨w.heap.size, 0, none⟩) := hf.same 4 (by decide)
  obtain rfl : x5 = .pointer (some ⟨w.heap.size + 1, 0, none⟩) := hf.same 5 (by decide)
  obtain rfl : x6 = .pointer (some ⟨w.heap.size + 2, 0, none⟩) := hf.same 6 (by decide)
  obtain rfl : x8 = .pointer (some ⟨w.heap.size + 3, 0, none⟩) := hf.same 8 (by decide)
  obtain rfl : x9 = .pointer (some ⟨w.heap.size + 4, 0, none⟩) := hf.same 9 (by decide)
  obtain rfl : x11 = .int .i64 ee := hall 10 11 rfl
  obtain rfl : x14 = .agg #[.int .i64 s, .int .i64 ww, .int .i64 t, .int .i64 en] := hall 0 14 rfl
  obtain rfl : x15 = .agg #[.slice A n c, .int .i64 S] := hall 1 15 rfl
  obtain rfl : x16 = .int .i64 e1 := hall 2 16 rfl
  obtain rfl : x17 = .agg #[.int .i64 lo, .int .i64 hi, .int .i64 st] := hall 3 17 rfl
  obtain rfl : x18 = .int .i64 e2 := hall 4 18 rfl
  obtain rfl : x19 = .agg #[.int .i64 s, .int .i64 ww, .int .i64 t, .int .i64 en] := hall 5 19 rfl
  obtain rfl : x20 = .int .i64 y := hall 6 20 rfl
  obtain rfl : x21 = .int .i64 e3 := hall 7 21 rfl
  obtain rfl : x23 = .int .i64 ee := hall 9 23 rfl
  clear hall hf
  have HY := Lib.hid hby
  have HYW := Lib.hid (HB0.out.trans (hby.mono HB0.out.size))
  clear hby
  by_cases he : ee = 0
  · subst he
    have SA1 := SA.out rfl
    have SB1 := SB.out rfl
    have NG := HNG.out rfl
    obtain ⟨sn, hsn⟩ : ∃ v, lowN nu d1 = v := ⟨_, rfl⟩
    obtain ⟨sd, hsd⟩ : ∃ v, lowD nu d1 = v := ⟨_, rfl⟩
    obtain ⟨tn, htn⟩ : ∃ v, lowN nu d2 = v := ⟨_, rfl⟩
    obtain ⟨td, htd⟩ : ∃ v, lowD nu d2 = v := ⟨_, rfl⟩
    rw [hsn, hsd] at SA1
    rw [htn, htd] at SB1
    rw [hsn] at NG
    have HS1 := Lib.hid (And.intro hsn hsd)
    have HS2 := Lib.hid (And.intro htn htd)
    have SA2 := Lib.hid SA1
    have SB2 := Lib.hid SB1
    have NG2 := Lib.hid NG
    clear SA SB SA1 SB1 HNG NG hsn hsd htn htd CB CW CP C3
    have HCY := Lib.hid (fun wx (hx : Below wy.heap.size wy wx) => HC.out wx (HY.out.trans (hx.mono HY.out.size)))
    obtain ⟨c0, c1, c2, c3, c4, c5, c6, c7, c8, c9, c10, c11, c12, z3_0, z3_1, z4_0, z4_1⟩ := HCY.out wy (Below.refl _ _)
    have ly : w.heap.size + 4 < wy.heap.size := World.block_lt_of_cell? wy _ c11
    go_upto_region 4 with fail
    clear c0 c1 c2 c3 c4 c5 c6 c7 c8 c9 c10 c11 c12 z3_0 z3_1 z4_0 z4_1
    refine wp_region_ptrs (t := 30) [29, 30, 31, 32, 33, 34, 35, 36, 37, 38, 39, 40, 12, 13, 46, 47] [⟨12, 14, sn, sd⟩, ⟨13, 15, tn, td⟩] [rEq (.agg #[.int .i64 s, .int .i64 ww, .int .i64 t, .int .i64 en]), rEq (.pointer (some ⟨w.heap.size + 1, 0, none⟩)), rEq (.int .i64 lo), rEq (.agg #[.slice A n c, .int .i64 S]), rEq (.int .i64 y), rEq (.agg #[.int .i64 sn, .int .i64 sd]), rEq (.agg #[.int .i64 s, .int .i64 ww, .int .i64 t, .int .i64 en]), rEq (.pointer (some ⟨w.heap.size + 1, 1, none⟩)), rEq (.int .i64 hi), rEq (.agg #[.slice A n c, .int .i64 S]), rEq (.int .i64 y), rEq (.agg #[.int .i64 tn, .int .i64 td]), (rAny), (rAny), (rAny), (rAny)] [rEq (.agg #[.int .i64 s, .int .i64 ww, .int .i64 t, .int .i64 en]), rEq (.pointer (some ⟨w.heap.size + 1, 0, none⟩)), rEq (.int .i64 lo), rEq (.agg #[.slice A n c, .int .i64 S]), rEq (.int .i64 y), rEq (.agg #[.int .i64 sn, .int .i64 sd]), rEq (.agg #[.int .i64 s, .int .i64 ww, .int .i64 t, .int .i64 en]), rEq (.pointer (some ⟨w.heap.size + 1, 1, none⟩)), rEq (.int .i64 hi), rEq (.agg #[.slice A n c, .int .i64 S]), rEq (.int .i64 y), rEq (.agg #[.int .i64 tn, .int .i64 td]), (rAny), (rAny), (rAny), (rAny)] [12, 13, 14, 15] [0, 1, 2, 3, 4, 5, 11, 12, 13, 14, 15] (by kernel_rfl) (by kernel_rfl) (by decide) rfl ?_ ?_ ?_ ?_ ?_ ?_ ?_ ?_ ?_ ?_ (by simp)
    · refine ⟨fun i h1 h2 => ?_, fun q hq => ?_, fun q hq q' hq' h => ?_, fun q hq o ho => ?_, fun q hq => ?_⟩
      · have h3 : i = 14 ∨ i = 15 := by
          revert h2
          revert h1
          revert i
          decide +kernel
        rcases h3 with rfl | rfl
        · exact ⟨⟨12, 14, sn, sd⟩, by simp, rfl⟩
        · exact ⟨⟨13, 15, tn, td⟩, by simp, rfl⟩
      · simp only [List.mem_cons, List.not_mem_nil, or_false] at hq
        rcases hq with rfl | rfl
        · exact ⟨by kernel_rfl, by kernel_rfl, (show 12 < _ by decide +kernel)⟩
        · exact ⟨by kernel_rfl, by kernel_rfl, (show 13 < _ by decide +kernel)⟩
      · simp only [List.mem_cons, List.not_mem_nil, or_false] at hq
        simp only [List.mem_cons, List.not_mem_nil, or_false] at hq'
        rcases hq with rfl | rfl <;> rcases hq' with rfl | rfl <;> first | rfl | (exfalso; revert h; simp)
      · simp only [List.mem_cons, List.not_mem_nil, or_false] at hq
        rcases hq with rfl | rfl
        · dsimp only at ho
          have ho2 : _ = o := Option.some.inj ho
          subst ho2
          show 12 ∈ depsOf _
          decide
        · dsimp only at ho
          have ho2 : _ = o := Option.some.inj ho
          subst ho2
          show 13 ∈ depsOf _
          decide
      · simp only [List.mem_cons, List.not_mem_nil, or_false] at hq
        rcases hq with rfl | rfl <;> exact ⟨rfl, rfl, rfl⟩
    · intro i o ho he
      have he' : i = 12 ∨ i = 13 ∨ i = 14 ∨ i = 15 := by simpa using he
      rcases he' with rfl | rfl | rfl | rfl
      · exact .inl ⟨⟨12, 14, sn, sd⟩, by simp, .inl rfl⟩
      · exact .inl ⟨⟨13, 15, tn, td⟩, by simp, .inl rfl⟩
      · exact .inl ⟨⟨12, 14, sn, sd⟩, by simp, .inr rfl⟩
      · exact .inl ⟨⟨13, 15, tn, td⟩, by simp, .inr rfl⟩
    · intro i hi he
      have he' : i = 0 ∨ i = 1 ∨ i = 2 ∨ i = 3 ∨ i = 4 ∨ i = 5 ∨ i = 11 ∨ i = 12 ∨ i = 13 ∨ i = 14 ∨ i = 15 := by simpa using he
      rcases he' with rfl | rfl | rfl | rfl | rfl | rfl | rfl | rfl | rfl | rfl | rfl
      · exact .inr (fun q hq os hos => by
          simp only [List.mem_cons, List.not_mem_nil, or_false] at hq
          rcases hq with rfl | rfl <;> (dsimp only at hos; have ho2 : _ = os := Option.some.inj hos; subst ho2; decide))
      · exact .inr (fun q hq os hos => by
          simp only [List.mem_cons, List.not_mem_nil, or_false] at hq
          rcases hq with rfl | rfl <;> (dsimp only at hos; have ho2 : _ = os := Option.some.inj hos; subst ho2; decide))
      · exact .inr (fun q hq os hos => by
          simp only [List.mem_cons, List.not_mem_nil, or_false] at hq
          rcases hq with rfl | rfl <;> (dsimp only at hos; have ho2 : _ = os := Option.some.inj hos; subst ho2; decide))
      · exact .inr (fun q hq os hos => by
          simp only [List.mem_cons, List.not_mem_nil, or_false] at hq
          rcases hq with rfl | rfl <;> (dsimp only at hos; have ho2 : _ = os := Option.some.inj hos; subst ho2; decide))
      · exact .inr (fun q hq os hos => by
          simp only [List.mem_cons, List.not_mem_nil, or_false] at hq
          rcases hq with rfl | rfl <;> (dsimp only at hos; have ho2 : _ = os := Option.some.inj hos; subst ho2; decide))
      · exact .inr (fun q hq os hos => by
          simp only [List.mem_cons, List.not_mem_nil, or_false] at hq
          rcases hq with rfl | rfl <;> (dsimp only at hos; have ho2 : _ = os := Option.some.inj hos; subst ho2; decide))
      · exact .inr (fun q hq os hos => by
          simp only [List.mem_cons, List.not_mem_nil, or_false] at hq
          rcases hq with rfl | rfl <;> (dsimp only at hos; have ho2 : _ = os := Option.some.inj hos; subst ho2; decide))
      · exact .inl ⟨⟨12, 14, sn, sd⟩, by simp, .inl rfl⟩
      · exact .inl ⟨⟨13, 15, tn, td⟩, by simp, .inl rfl⟩
      · exact .inl ⟨⟨12, 14, sn, sd⟩, by simp, .inr rfl⟩
      · exact .inl ⟨⟨13, 15, tn, td⟩, by simp, .inr rfl⟩
    · intro j v w1' w2' h
      match j, h with
      | 0, h => exact h
      | 1, h => exact h
      | 2, h => exact h
      | 3, h => exact h
      | 4, h => exact h
      | 5, h => exact h
      | 6, h => exact h
      | 7, h => exact h
      | 8, h => exact h
      | 9, h => exact h
      | 10, h => exact h
      | 11, h => exact h
      | 12, h => exact trivial
      | 13, h => exact trivial
      | 14, h => exact trivial
      | 15, h => exact trivial
      | _ + 16, _ => exact trivial
    · intro j v w1' w2' h
      match j, h with
      | 0, h => exact h
      | 1, h => exact h
      | 2, h => exact h
      | 3, h => exact h
      | 4, h => exact h
      | 5, h => exact h
      | 6, h => exact h
      | 7, h => exact h
      | 8, h => exact h
      | 9, h => exact h
      | 10, h => exact h
      | 11, h => exact h
      | 12, h => exact trivial
      | 13, h => exact trivial
      | 14, h => exact trivial
      | 15, h => exact trivial
      | _ + 16, _ => exact trivial
    · refine ⟨?_, ?_, ?_, ?_, ?_, ?_, ?_, ?_, ?_, ?_, ?_, ?_, ?_, ?_, ?_, ?_, trivial⟩
      · intro _ ac wx hf hb hd -- 0
        have f4 : ac.tmps[4]?.getD undef = .pointer (some ⟨w.heap.size, 0, none⟩) := by rw [← Array.getD_eq_getD_getElem?]; exact hf.same 4 (by decide)
        obtain ⟨c0, c1, c2, c3, c4, c5, c6, c7, c8, c9, c10, c11, c12, z3_0, z3_1, z4_0, z4_1⟩ := HCY.out wx hb
        exact rstep_eq (by simp [execOp, Act.eval, f4, c0, c1, c2, c3, go_sem]) rfl
      · intro _ ac wx hf hb hd -- 1
        have f5 : ac.tmps[5]?.getD undef = .pointer (some ⟨w.heap.size + 1, 0, none⟩) := by rw [← Array.getD_eq_getD_getElem?]; exact hf.same 5 (by decide)
        exact rstep_eq (by simp [execOp, Act.eval, f5, go_sem]) rfl
      · intro _ ac wx hf hb hd -- 2
        have d1 : ac.tmps[30]?.getD undef = .pointer (some ⟨w.heap.size + 1, 0, none⟩) := by rw [← Array.getD_eq_getD_getElem?]; exact hd 1 (by decide)
        obtain ⟨c0, c1, c2, c3, c4, c5, c6, c7, c8, c9, c10, c11, c12, z3_0, z3_1, z4_0, z4_1⟩ := HCY.out wx hb
        exact rstep_eq (by simp [execOp, Act.eval, d1, c4, go_sem]) rfl
      · intro _ ac wx hf hb hd -- 3
        have f6 : ac.tmps[6]?.getD undef = .pointer (some ⟨w.heap.size + 2, 0, none⟩) := by rw [← Array.getD_eq_getD_getElem?]; exact hf.same 6 (by decide)
        obtain ⟨c0, c1, c2, c3, c4, c5, c6, c7, c8, c9, c10, c11, c12, z3_0, z3_1, z4_0, z4_1⟩ := HCY.out wx hb
        exact rstep_eq (by simp [execOp, Act.eval, f6, c7, c8, go_sem]) rfl
      · intro _ ac wx hf hb hd -- 4
        have f3 : ac.tmps[3]?.getD undef = .int .i64 y := by rw [← Array.getD_eq_getD_getElem?]; exact hf.same 3 (by decide)
        exact rstep_eq (by simp [execOp, Act.eval, f3, go_sem]) rfl
      · intro _ ac wx hf hb hd -- 5
        have d0 : ac.tmps[29]?.getD undef = .agg #[.int .i64 s, .int .i64 ww, .int .i64 t, .int .i64 en] := by rw [← Array.getD_eq_getD_getElem?]; exact hd 0 (by decide)
        have d2 : ac.tmps[31]?.getD undef = .int .i64 lo := by rw [← Array.getD_eq_getD_getElem?]; exact hd 2 (by decide)
        have d3 : ac.tmps[32]?.getD undef = .agg #[.slice A n c, .int .i64 S] := by rw [← Array.getD_eq_getD_getElem?]; exact hd 3 (by decide)
        have d4 : ac.tmps[33]?.getD undef = .int .i64 y := by rw [← Array.getD_eq_getD_getElem?]; exact hd 4 (by decide)
        refine rstep_call (f := 105) (args := #[.agg #[.int .i64 s, .int .i64 ww, .int .i64 t, .int .i64 en], .int .i64 lo, .agg #[.slice A n c, .int .i64 S], .int .i64 y]) (by simp [Act.eval, d0, d2, d3, d4, go_sem]) ?_ rfl
        exact SA2.out wx (HYW.out.trans (hb.mono HYW.out.size))
      · intro _ ac wx hf hb hd -- 6
        have f4 : ac.tmps[4]?.getD undef = .pointer (some ⟨w.heap.size, 0, none⟩) := by rw [← Array.getD_eq_getD_getElem?]; exact hf.same 4 (by decide)
        obtain ⟨c0, c1, c2, c3, c4, c5, c6, c7, c8, c9, c10, c11, c12, z3_0, z3_1, z4_0, z4_1⟩ := HCY.out wx hb
        exact rstep_eq (by simp [execOp, Act.eval, f4, c0, c1, c2, c3, go_sem]) rfl
      · intro _ ac wx hf hb hd -- 7
        have f5 : ac.tmps[5]?.getD undef = .pointer (some ⟨w.heap.size + 1, 0, none⟩) := by rw [← Array.getD_eq_getD_getElem?]; exact hf.same 5 (by decide)
        exact rstep_eq (by simp [execOp, Act.eval, f5, go_sem]) rfl
      · intro _ ac wx hf hb hd -- 8
        have d7 : ac.tmps[36]?.getD undef = .pointer (some ⟨w.heap.size + 1, 1, none⟩) := by rw [← Array.getD_eq_getD_getElem?]; exact hd 7 (by decide)
        obtain ⟨c0, c1, c2, c3, c4, c5, c6, c7, c8, c9, c10, c11, c12, z3_0, z3_1, z4_0, z4_1⟩ := HCY.out wx hb
        exact rstep_eq (by simp [execOp, Act.eval, d7, c5, go_sem]) rfl
      · intro _ ac wx hf hb hd -- 9
        have f6 : ac.tmps[6]?.getD undef = .pointer (some ⟨w.heap.size + 2, 0, none⟩) := by rw [← Array.getD_eq_getD_getElem?]; exact hf.same 6 (by decide)
        obtain ⟨c0, c1, c2, c3, c4, c5, c6, c7, c8, c9, c10, c11, c12, z3_0, z3_1, z4_0, z4_1⟩ := HCY.out wx hb
        exact rstep_eq (by simp [execOp, Act.eval, f6, c7, c8, go_sem]) rfl
      · intro _ ac wx hf hb hd -- 10
        have f3 : ac.tmps[3]?.getD undef = .int .i64 y := by rw [← Array.getD_eq_getD_getElem?]; exact hf.same 3 (by decide)
        exact rstep_eq (by simp [execOp, Act.eval, f3, go_sem]) rfl
      · intro _ ac wx hf hb hd -- 11
        have d6 : ac.tmps[35]?.getD undef = .agg #[.int .i64 s, .int .i64 ww, .int .i64 t, .int .i64 en] := by rw [← Array.getD_eq_getD_getElem?]; exact hd 6 (by decide)
        have d8 : ac.tmps[37]?.getD undef = .int .i64 hi := by rw [← Array.getD_eq_getD_getElem?]; exact hd 8 (by decide)
        have d9 : ac.tmps[38]?.getD undef = .agg #[.slice A n c, .int .i64 S] := by rw [← Array.getD_eq_getD_getElem?]; exact hd 9 (by decide)
        have d10 : ac.tmps[39]?.getD undef = .int .i64 y := by rw [← Array.getD_eq_getD_getElem?]; exact hd 10 (by decide)
        refine rstep_call (f := 105) (args := #[.agg #[.int .i64 s, .int .i64 ww, .int .i64 t, .int .i64 en], .int .i64 hi, .agg #[.slice A n c, .int .i64 S], .int .i64 y]) (by simp [Act.eval, d6, d8, d9, d10, go_sem]) ?_ rfl
        exact SB2.out wx (HYW.out.trans (hb.mono HYW.out.size))
      · intro h; cases h
      · intro h; cases h
      · intro h; cases h
      · intro h; cases h
    · refine ⟨?_, ?_, ?_, ?_, ?_, ?_, ?_, ?_, ?_, ?_, ?_, ?_, ?_, ?_, ?_, ?_, trivial⟩
      · intro h; cases h
      · intro h; cases h
      · intro h; cases h
      · intro h; cases h
      · intro h; cases h
      · intro h; cases h
      · intro _ ac wx hf hb hd -- 6
        have f4 : ac.tmps[4]?.getD undef = .pointer (some ⟨w.heap.size, 0, none⟩) := by rw [← Array.getD_eq_getD_getElem?]; exact hf.same 4 (by decide)
        obtain ⟨c0, c1, c2, c3, c4, c5, c6, c7, c8, c9, c10, c11, c12, z3_0, z3_1, z4_0, z4_1⟩ := HCY.out wx hb
        exact rstep_eq (by simp [execOp, Act.eval, f4, c0, c1, c2, c3, go_sem]) rfl
      · intro _ ac wx hf hb hd -- 7
        have f5 : ac.tmps[5]?.getD undef = .pointer (some ⟨w.heap.size + 1, 0, none⟩) := by rw [← Array.getD_eq_getD_getElem?]; exact hf.same 5 (by decide)
        exact rstep_eq (by simp [execOp, Act.eval, f5, go_sem]) rfl
      · intro _ ac wx hf hb hd -- 8
        have d7 : ac.tmps[36]?.getD undef = .pointer (some ⟨w.heap.size + 1, 1, none⟩) := by rw [← Array.getD_eq_getD_getElem?]; exact hd 7 (by decide)
        obtain ⟨c0, c1, c2, c3, c4, c5, c6, c7, c8, c9, c10, c11, c12, z3_0, z3_1, z4_0, z4_1⟩ := HCY.out wx hb
        exact rstep_eq (by simp [execOp, Act.eval, d7, c5, go_sem]) rfl
      · intro _ ac wx hf hb hd -- 9
        have f6 : ac.tmps[6]?.getD undef = .pointer (some ⟨w.heap.size + 2, 0, none⟩) := by rw [← Array.getD_eq_getD_getElem?]; exact hf.same 6 (by decide)
        obtain ⟨c0, c1, c2, c3, c4, c5, c6, c7, c8, c9, c10, c11, c12, z3_0, z3_1, z4_0, z4_1⟩ := HCY.out wx hb
        exact rstep_eq (by simp [execOp, Act.eval, f6, c7, c8, go_sem]) rfl
      · intro _ ac wx hf hb hd -- 10
        have f3 : ac.tmps[3]?.getD undef = .int .i64 y := by rw [← Array.getD_eq_getD_getElem?]; exact hf.same 3 (by decide)
        exact rstep_eq (by simp [execOp, Act.eval, f3, go_sem]) rfl
      · intro h; cases h
      · intro h; cases h
      · intro h; cases h
      · intro h; cases h
      · intro h; cases h
    · intro q hq o ac wx ho
      simp only [List.mem_cons, List.not_mem_nil, or_false] at hq
      rcases hq with rfl | rfl <;> (cases ho; simp [execOp, go_sem])
    · intro q hq o ac wx bb ho hf hp z0 z1 y0 y1 hd
      simp only [List.mem_cons, List.not_mem_nil, or_false] at hq
      rcases hq with rfl | rfl
      · dsimp only at ho
        have ho2 : _ = o := Option.some.inj ho
        subst ho2
        clear ho
        have dp : ac.tmps[12]?.getD undef = .pointer (some ⟨bb, 0, none⟩) := by rw [← Array.getD_eq_getD_getElem?]; exact hp
        have dv : ac.tmps[34]?.getD undef = .agg #[.int .i64 sn, .int .i64 sd] := by rw [← Array.getD_eq_getD_getElem?]; exact hd 5 (by decide)
        simp [Oper.wp, Oper.upon, execOp, Act.eval, go_sem, dp, dv, z0, z1, y0, y1]
      · dsimp only at ho
        have ho2 : _ = o := Option.some.inj ho
        subst ho2
        clear ho
        have dp : ac.tmps[13]?.getD undef = .pointer (some ⟨bb, 0, none⟩) := by rw [← Array.getD_eq_getD_getElem?]; exact hp
        have dv : ac.tmps[40]?.getD undef = .agg #[.int .i64 tn, .int .i64 td] := by rw [← Array.getD_eq_getD_getElem?]; exact hd 11 (by decide)
        simp [Oper.wp, Oper.upon, execOp, Act.eval, go_sem, dp, dv, z0, z1, y0, y1]
    rintro ⟨⟨ll⟩, df⟩ w3 hf hbw3 hall ⟨blkf, hq1, hq2⟩
    have hdf : df = [] := hf.defers
    subst hdf
    have hsz : ll.length = 48 := hf.size
    obtain ⟨x0, ll0, rfl, hsz0⟩ := cons_of hsz
    obtain ⟨x1, ll1, rfl, hsz1⟩ := cons_of hsz0
    obtain ⟨x2, ll2, rfl, hsz2⟩ := cons_of hsz1
    obtain ⟨x3, ll3, rfl, hsz3⟩ := cons_of hsz2
    obtain ⟨x4, ll4, rfl, hsz4⟩ := cons_of hsz3
    obtain ⟨x5, ll5, rfl, hsz5⟩ := cons_of hsz4
    obtain ⟨x6, ll6, rfl, hsz6⟩ := cons_of hsz5
    obtain ⟨x7, ll7, rfl, hsz7⟩ := cons_of hsz6
    obtain ⟨x8, ll8, rfl, hsz8⟩ := cons_of hsz7
    obtain ⟨x9, ll9, rfl, hsz9⟩ := cons_of hsz8
    obtain ⟨x10, ll10, rfl, hsz10⟩ := cons_of hsz9
    obtain ⟨x11, ll11, rfl, hsz11⟩ := cons_of hsz10
    obtain ⟨x12, ll12, rfl, hsz12⟩ := cons_of hsz11
    obtain ⟨x13, ll13, rfl, hsz13⟩ := cons_of hsz12
    obtain ⟨x14, ll14, rfl, hsz14⟩ := cons_of hsz13
    obtain ⟨x15, ll15, rfl, hsz15⟩ := cons_of hsz14
    obtain ⟨x16, ll16, rfl, hsz16⟩ := cons_of hsz15
    obtain ⟨x17, ll17, rfl, hsz17⟩ := cons_of hsz16
    obtain ⟨x18, ll18, rfl, hsz18⟩ := cons_of hsz17
    obtain ⟨x19, ll19, rfl, hsz19⟩ := cons_of hsz18
    obtain ⟨x20, ll20, rfl, hsz20⟩ := cons_of hsz19
    obtain ⟨x21, ll21, rfl, hsz21⟩ := cons_of hsz20
    obtain ⟨x22, ll22, rfl, hsz22⟩ := cons_of hsz21
    obtain ⟨x23, ll23, rfl, hsz23⟩ := cons_of hsz22
    obtain ⟨x24, ll24, rfl, hsz24⟩ := cons_of hsz23
    obtain ⟨x25, ll25, rfl, hsz25⟩ := cons_of hsz24
    obtain ⟨x26, ll26, rfl, hsz26⟩ := cons_of hsz25
    obtain ⟨x27, ll27, rfl, hsz27⟩ := cons_of hsz26
    obtain ⟨x28, ll28, rfl, hsz28⟩ := cons_of hsz27
    obtain ⟨x29, ll29, rfl, hsz29⟩ := cons_of hsz28
    obtain ⟨x30, ll30, rfl, hsz30⟩ := cons_of hsz29
    obtain ⟨x31, ll31, rfl, hsz31⟩ := cons_of hsz30
    obtain ⟨x32, ll32, rfl, hsz32⟩ := cons_of hsz31
    obtain ⟨x33, ll33, rfl, hsz33⟩ := cons_of hsz32
    obtain ⟨x34, ll34, rfl, hsz34⟩ := cons_of hsz33
    obtain ⟨x35, ll35, rfl, hsz35⟩ := cons_of hsz34
    obtain ⟨x36, ll36, rfl, hsz36⟩ := cons_of hsz35
    obtain ⟨x37, ll37, rfl, hsz37⟩ := cons_of hsz36
    obtain ⟨x38, ll38, rfl, hsz38⟩ := cons_of hsz37
    obtain ⟨x39, ll39, rfl, hsz39⟩ := cons_of hsz38
    obtain ⟨x40, ll40, rfl, hsz40⟩ := cons_of hsz39
    obtain ⟨x41, ll41, rfl, hsz41⟩ := cons_of hsz40
    obtain ⟨x42, ll42, rfl, hsz42⟩ := cons_of hsz41
    obtain ⟨x43, ll43, rfl, hsz43⟩ := cons_of hsz42
    obtain ⟨x44, ll44, rfl, hsz44⟩ := cons_of hsz43
    obtain ⟨x45, ll45, rfl, hsz45⟩ := cons_of hsz44
    obtain ⟨x46, ll46, rfl, hsz46⟩ := cons_of hsz45
    obtain ⟨x47, ll47, rfl, hsz47⟩ := cons_of hsz46
    obtain rfl := List.eq_nil_of_length_eq_zero hsz47
    obtain rfl : x3 = .int .i64 y := hf.same 3 (by decide)
    obtain rfl : x4 = .pointer (some ⟨w.heap.size, 0, none⟩) := hf.same 4 (by decide)
    obtain rfl : x5 = .pointer (some ⟨w.heap.size + 1, 0, none⟩) := hf.same 5 (by decide)
    obtain rfl : x6 = .pointer (some ⟨w.heap.size + 2, 0, none⟩) := hf.same 6 (by decide)
    obtain rfl : x8 = .pointer (some ⟨w.heap.size + 3, 0, none⟩) := hf.same 8 (by decide)
    obtain rfl : x9 = .pointer (some ⟨w.heap.size + 4, 0, none⟩) := hf.same 9 (by decide)
    obtain rfl : x29 = .agg #[.int .i64 s, .int .i64 ww, .int .i64 t, .int .i64 en] := hall 0 29 rfl
    obtain rfl : x30 = .pointer (some ⟨w.heap.size + 1, 0, none⟩) := hall 1 30 rfl
    obtain rfl : x31 = .int .i64 lo := hall 2 31 rfl
    obtain rfl : x32 = .agg #[.slice A n c, .int .i64 S] := hall 3 32 rfl
    obtain rfl : x33 = .int .i64 y := hall 4 33 rfl
    obtain rfl : x34 = .agg #[.int .i64 sn, .int .i64 sd] := hall 5 34 rfl
    obtain rfl : x35 = .agg #[.int .i64 s, .int .i64 ww, .int .i64 t, .int .i64 en] := hall 6 35 rfl
    obtain rfl : x36 = .pointer (some ⟨w.heap.size + 1, 1, none⟩) := hall 7 36 rfl
    obtain rfl : x37 = .int .i64 hi := hall 8 37 rfl
    obtain rfl : x38 = .agg #[.slice A n c, .int .i64 S] := hall 9 38 rfl
    obtain rfl : x39 = .int .i64 y := hall 10 39 rfl
    obtain rfl : x40 = .agg #[.int .i64 tn, .int .i64 td] := hall 11 40 rfl
    obtain ⟨pA, hxA, plA, psA, paA, pcA⟩ : ∃ blk, x12 = .pointer (some ⟨blk, 0, none⟩) ∧ wy.heap.size ≤ blk ∧ blk < w3.heap.size ∧ w3.cell? ⟨blk, 0, none⟩ = some (.int .i64 sn) ∧ w3.cell? ⟨blk, 1, none⟩ = some (.int .i64 sd) := by
      obtain ⟨g0, g1, g2, -, -, g5, g6⟩ := hq1 ⟨12, 14, sn, sd⟩ (by simp) rfl
      exact ⟨blkf 12, g0, g1, g2, g5, g6⟩
    subst hxA
    obtain ⟨pB, hxB, plB, psB, paB, pcB⟩ : ∃ blk, x13 = .pointer (some ⟨blk, 0, none⟩) ∧ wy.heap.size ≤ blk ∧ blk < w3.heap.size ∧ w3.cell? ⟨blk, 0, none⟩ = some (.int .i64 tn) ∧ w3.cell? ⟨blk, 1, none⟩ = some (.int .i64 td) := by
      obtain ⟨g0, g1, g2, -, -, g5, g6⟩ := hq1 ⟨13, 15, tn, td⟩ (by simp) rfl
      exact ⟨blkf 13, g0, g1, g2, g5, g6⟩
    subst hxB
    clear hall hf hq1 hq2 blkf
    obtain ⟨c0, c1, c2, c3, c4, c5, c6, c7, c8, c9, c10, c11, c12, z3_0, z3_1, z4_0, z4_1⟩ := HCY.out w3 hbw3
    have H3 := Lib.hid (HYW.out.trans (hbw3.mono HYW.out.size))
    have a3 : ¬ pA = w.heap.size + 3 := by omega
    have a4 : ¬ pA = w.heap.size + 4 := by omega
    have b3 : ¬ pB = w.heap.size + 3 := by omega
    have b4 : ¬ pB = w.heap.size + 4 := by omega
    clear hbw3 plA plB psA psB ly
    by_cases hneg : sn < 0
    · have HN2 := Lib.hid (NG2.out.1 hneg)
      go_wp2
      go_region
      all_goals (
        go_wp2
        refine bodyPost_ret (v := .tuple #[.agg #[.int .i64 sn, .int .i64 sd], .agg #[.int .i64 tn, .int .i64 td], .int .i64 0]) (by simp [results, Try.results51, go_sem, c9, c10, c11, c12]) rfl ⟨?_, ?_⟩
        · rw [fr3_ok, HL.out, HI.out]
          rw [decide_eq_true HN2.out, cond_true, cond_true]
          unfold frV
          rw [HS1.out.1, HS1.out.2, HS2.out.1, HS2.out.2]
        · exact (((((H3.out.setCell (p := ⟨w.heap.size + 3, 0, none⟩) (by simp) _).setCell (p := ⟨w.heap.size + 3, 1, none⟩) (by simp) _).setCell (p := ⟨w.heap.size + 4, 0, none⟩) (by simp) _).setCell (p := ⟨w.heap.size + 4, 1, none⟩) (by simp) _)).drew)
    
    · have HN2 := Lib.hid (fun h => hneg (NG2.out.2 h))
      go_wp2
      go_region
      all_goals (
        go_wp2
        refine bodyPost_ret (v := .tuple #[.agg #[.int .i64 tn, .int .i64 td], .agg #[.int .i64 sn, .int .i64 sd], .int .i64 0]) (by simp [results, Try.results51, go_sem, c9, c10, c11, c12]) rfl ⟨?_, ?_⟩
        · rw [fr3_ok, HL.out, HI.out]
          rw [decide_eq_false HN2.out, cond_false, cond_false]
          unfold frV
          rw [HS1.out.1, HS1.out.2, HS2.out.1, HS2.out.2]
        · exact (((((H3.out.setCell (p := ⟨w.heap.size + 3, 0, none⟩) (by simp) _).setCell (p := ⟨w.heap.size + 3, 1, none⟩) (by simp) _).setCell (p := ⟨w.heap.size + 4, 0, none⟩) (by simp) _).setCell (p := ⟨w.heap.size + 4, 1, none⟩) (by simp) _)).drew)
  · have e1' : (ee == 0) = false := by simpa using he
    have e2' : (ee != 0) = true := by simpa using he
    obtain ⟨c0, c1, c2, c3, c4, c5, c6, c7, c8, c9, c10, c11, c12, z3_0, z3_1, z4_0, z4_1⟩ := HC.out wy HY.out
    go_wp2
    refine bodyPost_ret (v := .tuple #[.agg #[.int .i64 0, .int .i64 0], .agg #[.int .i64 0, .int .i64 0], .int .i64 ee]) (by simp [results, Try.results51, go_sem, c9, c10, c11, c12]) rfl ⟨by rw [fr3_bad he], ?_⟩
    exact ((((HYW.out.setCell (p := ⟨w.heap.size + 3, 0, none⟩) (by simp) _).setCell (p := ⟨w.heap.size + 3, 1, none⟩) (by simp) _).setCell (p := ⟨w.heap.size + 4, 0, none⟩) (by simp) _).setCell (p := ⟨w.heap.size + 4, 1, none⟩) (by simp) _)
end Go.Proofs.Ytablphoicidlkaa
