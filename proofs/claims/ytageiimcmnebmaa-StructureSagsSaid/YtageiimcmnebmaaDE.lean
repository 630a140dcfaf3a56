/- The law of sags. -/
import Derived.Test.YtageiimcmnebmaaCH
import Derived.Test.YtageiimcmnebmaaRI
import Derived.Test.YtageiimcmnebmaaDC
import Derived.Test.YtageiimcmnebmaaDD
namespace Go.Proofs.Ytageiimcmnebmaa
open Go.RowKit

set_option maxHeartbeats 2000000 in
theorem none_one {b c : Nat} (w : World) (h0 : w.cell? ⟨b, 0, none⟩ = some (.int .i64 0)) (h1 : w.cell? ⟨b, 1, none⟩ = some (.int .i64 0)) :
    Calls Try.prog 27 #[.slice (some ⟨b, 0, none⟩) 1 c] w fun e w' => e = .returned (.bool true) ∧ w = w' := by
  go_enter Try.func27, Try.ntmps27
  go_wp2
  go_loopw [3] (fun i wr => (i = .int .i64 0 ∨ i = .int .i64 1) ∧ wr = w) (fun i _ => 1 - (intOf i).toNat)
  case atStart => exact ⟨.inl rfl, rfl⟩
  case round =>
    obtain ⟨hcase, rfl⟩ := hrel
    rcases hcase with rfl | rfl
    · go_wp2
      exact ⟨by simp, by simp [intOf]⟩
    · go_wp2
      go_ret
      exact ⟨rfl, rfl⟩
set_option maxHeartbeats 16000000 in
set_option maxRecDepth 20000 in
theorem sags_law {s ww t en E x : Int} {A : Option Addr} {n c : Nat} {S : Int} {l : List Pt} (hn : n ≤ 12) {vn vd mn md eh fh dz p : Int} {st wi : Bool}
    (SA : ∀ A c wx, PtRow wx A n l → Calls Try.prog 39 #[.agg #[.int .i64 s, .int .i64 ww, .int .i64 t, .int .i64 en], .int .i64 E, buV A n c S, .int .i64 x] wx fun e w' => e = .returned (.tuple #[.agg #[.int .i64 vn, .int .i64 vd], .int .i64 eh]) ∧ Below wx.heap.size wx w')
    (GS : ∀ A c wx, PtRow wx A n l → Calls Try.prog 40 #[.agg #[.int .i64 s, .int .i64 ww, .int .i64 t, .int .i64 en], .int .i64 E, buV A n c S] wx fun e w' => e = .returned (.tuple #[.int .i64 p, .agg #[.int .i64 mn, .int .i64 md], .int .i64 fh]) ∧ Below wx.heap.size wx w')
    (w : World) (CB : ∀ wx, Below w.heap.size w wx → Calls Try.prog 23 #[.agg #[.int .i64 s, .int .i64 ww, .int .i64 t, .int .i64 en], buV A n c S] wx fun e w' => e = .returned (.int .i64 dz) ∧ Below wx.heap.size wx w')
    (IS : ∀ wx, Calls Try.prog 41 #[.int .i64 E] wx fun e w' => e = .returned (.bool st) ∧ wx = w')
    (WI : ∀ wx, Calls Try.prog 32 #[.int .i64 x, .int .i64 0, .int .i64 s] wx fun e w' => e = .returned (.bool wi) ∧ wx = w')
    (RG : dz = 0 → st = true → ∀ wx, Below w.heap.size w wx → Calls Try.prog 42 #[.agg #[.int .i64 s, .int .i64 ww, .int .i64 t, .int .i64 en], .int .i64 E, buV A n c S] wx fun e w' => e = .returned (.tuple #[.int .i64 p, .agg #[.int .i64 mn, .int .i64 md]]) ∧ Below wx.heap.size wx w')
    (RS : dz = 0 → st = true → wi = true → ∀ wx, Below w.heap.size w wx → Calls Try.prog 43 #[.agg #[.int .i64 s, .int .i64 ww, .int .i64 t, .int .i64 en], .int .i64 E, buV A n c S, .int .i64 x] wx fun e w' => e = .returned (.agg #[.int .i64 vn, .int .i64 vd]) ∧ Below wx.heap.size wx w')
    (H : (dz ≠ 0 ∧ eh = dz ∧ fh = dz ∧ vn = 0 ∧ vd = 0 ∧ p = 0 ∧ mn = 0 ∧ md = 0) ∨ (dz = 0 ∧ st = false ∧ eh = 2 ∧ fh = 2 ∧ vn = 0 ∧ vd = 0 ∧ p = 0 ∧ mn = 0 ∧ md = 0) ∨ (dz = 0 ∧ st = true ∧ fh = 0 ∧ wi = false ∧ eh = 2 ∧ vn = 0 ∧ vd = 0) ∨ (dz = 0 ∧ st = true ∧ fh = 0 ∧ wi = true ∧ eh = 0))
    (h : PtRow w A n l) :
    Calls Try.prog 6 #[.agg #[.int .i64 s, .int .i64 ww, .int .i64 t, .int .i64 en], buV A n c S, .agg #[.int .i64 E, .int .i64 x]] w fun e w' => e = .returned (.bool true) ∧ Below w.heap.size w w' := by
  have HR := Lib.hid h
  have HSA := Lib.hid SA
  have HGS := Lib.hid GS
  have HCB := Lib.hid CB
  have HIS := Lib.hid IS
  have HWI := Lib.hid WI
  have HRG := Lib.hid RG
  have HRS := Lib.hid RS
  have HH := Lib.hid H
  have AW := fun wx => Lib.hid (awake_any wx)
  have FE := Lib.hid (fun wx => few_any (A := A) (n := n) (c := c) (S := S) wx)
  have hd : decide (n ≤ 12) = true := decide_eq_true hn
  rw [hd] at FE
  clear h SA GS CB IS WI RG RS H hd
  unfold buV at *
  go_enter Try.func6, Try.ntmps6
  go_upto_region 1 with fail
  obtain ⟨w0, hw0⟩ : ∃ w0, (((w.alloc (.cells #[.int .i64 s, .int .i64 ww, .int .i64 t, .int .i64 en] 23)).alloc (.cells #[.slice A n c, .int .i64 S] 26)).alloc (.cells #[.int .i64 E, .int .i64 x] 56)) = w0 := ⟨_, rfl⟩
  have HB0 : Hid (Below w.heap.size w w0) := Lib.hid (by rw [← hw0]; exact ((((Below.refl _ _).alloc (Nat.le_refl _) _).alloc (by simp; try omega) _).alloc (by simp; try omega) _))
  have HC := Lib.hid (fun wx (hb : Below w0.heap.size w0 wx) => (show wx.cell? ⟨w.heap.size, 0, none⟩ = some (.int .i64 s) ∧ wx.cell? ⟨w.heap.size, 1, none⟩ = some (.int .i64 ww) ∧ wx.cell? ⟨w.heap.size, 2, none⟩ = some (.int .i64 t) ∧ wx.cell? ⟨w.heap.size, 3, none⟩ = some (.int .i64 en) ∧ wx.cell? ⟨w.heap.size + 1, 0, none⟩ = some (.slice A n c) ∧ wx.cell? ⟨w.heap.size + 1, 1, none⟩ = some (.int .i64 S) ∧ wx.cell? ⟨w.heap.size + 2, 0, none⟩ = some (.int .i64 E) ∧ wx.cell? ⟨w.heap.size + 2, 1, none⟩ = some (.int .i64 x) from by
    subst hw0
    obtain ⟨k, kf⟩ := bcell hb
    exact ⟨(k _ _ (by simp; try omega)).trans (by simp [go_sem]), (k _ _ (by simp; try omega)).trans (by simp [go_sem]), (k _ _ (by simp; try omega)).trans (by simp [go_sem]), (k _ _ (by simp; try omega)).trans (by simp [go_sem]), (k _ _ (by simp; try omega)).trans (by simp [go_sem]), (k _ _ (by simp; try omega)).trans (by simp [go_sem]), (k _ _ (by simp; try omega)).trans (by simp [go_sem]), (k _ _ (by simp; try omega)).trans (by simp [go_sem])⟩))
  rw [hw0]
  clear hw0
  have HZ0 := Lib.hid (Below.refl w0.heap.size w0)
  obtain ⟨c0, c1, c2, c3, c4, c5, c6, c7⟩ := HC.out w0 HZ0.out
  go_upto_region 3 with (go_at_call 19; (refine Calls.mono (AW _).out ?_); rintro e w1 ⟨rfl, hb1⟩; have H1 := Lib.hid hb1; clear hb1)
  obtain ⟨d0, d1, d2, d3, d4, d5, d6, d7⟩ := HC.out w1 H1.out
  go_upto_region 5 with (go_at_call 20; (refine Calls.mono (FE.out _) ?_); rintro e w2 ⟨rfl, hb2⟩; have H2 := Lib.hid (H1.out.trans (hb2.mono H1.out.size)); clear hb2)
  have HC2 := Lib.hid (fun wy (hy : Below w2.heap.size w2 wy) => HC.out wy (H2.out.trans (hy.mono H2.out.size)))
  have HW2 := Lib.hid (HB0.out.trans (H2.out.mono HB0.out.size))
  refine wp_region_one [21, 22, 23, 24, 25, 26, 27, 28, 20, 29, 30, 7, 117, 8] 12 [rEq (.agg #[.int .i64 s, .int .i64 ww, .int .i64 t, .int .i64 en]), rEq (.pointer (some ⟨w.heap.size + 2, 0, none⟩)), rEq (.int .i64 E), rEq (.agg #[.slice A n c, .int .i64 S]), (rBur 0 l n S), rEq (.pointer (some ⟨w.heap.size + 2, 1, none⟩)), rEq (.int .i64 x), rEq (.tuple #[.agg #[.int .i64 vn, .int .i64 vd], .int .i64 eh]), rEq (.tuple #[.agg #[.int .i64 vn, .int .i64 vd], .int .i64 eh]), rEq (.agg #[.int .i64 vn, .int .i64 vd]), rEq (.int .i64 eh), (rPtr0 w2.heap.size), (rAny), rEq (.int .i64 eh)] [rEq (.agg #[.int .i64 s, .int .i64 ww, .int .i64 t, .int .i64 en]), rEq (.pointer (some ⟨w.heap.size + 2, 0, none⟩)), rEq (.int .i64 E), rEq (.agg #[.slice A n c, .int .i64 S]), (rAny), rEq (.pointer (some ⟨w.heap.size + 2, 1, none⟩)), rEq (.int .i64 x), rEq (.tuple #[.agg #[.int .i64 vn, .int .i64 vd], .int .i64 eh]), rEq (.tuple #[.agg #[.int .i64 vn, .int .i64 vd], .int .i64 eh]), rEq (.agg #[.int .i64 vn, .int .i64 vd]), rEq (.int .i64 eh), (rPtr1 w2.heap.size vn vd), (rAny), rEq (.int .i64 eh)] [12, 13] [0, 1, 2, 3, 4, 5, 6, 7, 8, 9, 11, 12] (by kernel_rfl) (by kernel_rfl) (by decide) rfl ?_ (by decide) ?_ ?_ rfl ?_ ?_ ?_ ?_
  · intro i h
    have hi := stores_lt h
    revert h
    revert hi
    revert i
    decide +kernel
  · intro i o ho he
    have he' : i = 12 ∨ i = 13 := by simpa using he
    rcases he' with rfl | rfl
    · exact .inl rfl
    · cases ho; exact .inr (by decide)
  · intro i os ho hi he
    cases ho
    revert he
    revert hi
    revert i
    decide +kernel
  · refine ⟨?_, ?_, ?_, ?_, ?_, ?_, ?_, ?_, ?_, ?_, ?_, ?_, ?_, ?_, trivial⟩
    · intro _ ac wx hf hb hd -- 0
      have f3 : ac.tmps[3]?.getD undef = .pointer (some ⟨w.heap.size, 0, none⟩) := by rw [← Array.getD_eq_getD_getElem?]; exact hf.same 3 (by decide)
      obtain ⟨c0, c1, c2, c3, c4, c5, c6, c7⟩ := HC2.out wx hb
      exact rstep_eq (by simp [execOp, Act.eval, f3, c0, c1, c2, c3, go_sem]) rfl
    · intro _ ac wx hf hb hd -- 1
      have f5 : ac.tmps[5]?.getD undef = .pointer (some ⟨w.heap.size + 2, 0, none⟩) := by rw [← Array.getD_eq_getD_getElem?]; exact hf.same 5 (by decide)
      exact rstep_eq (by simp [execOp, Act.eval, f5, go_sem]) rfl
    · intro _ ac wx hf hb hd -- 2
      have d1 : ac.tmps[22]?.getD undef = .pointer (some ⟨w.heap.size + 2, 0, none⟩) := by rw [← Array.getD_eq_getD_getElem?]; exact hd 1 (by decide)
      obtain ⟨c0, c1, c2, c3, c4, c5, c6, c7⟩ := HC2.out wx hb
      exact rstep_eq (by simp [execOp, Act.eval, d1, c6, go_sem]) rfl
    · intro _ ac wx hf hb hd -- 3
      have f4 : ac.tmps[4]?.getD undef = .pointer (some ⟨w.heap.size + 1, 0, none⟩) := by rw [← Array.getD_eq_getD_getElem?]; exact hf.same 4 (by decide)
      obtain ⟨c0, c1, c2, c3, c4, c5, c6, c7⟩ := HC2.out wx hb
      exact rstep_eq (by simp [execOp, Act.eval, f4, c4, c5, go_sem]) rfl
    · intro _ ac wx hf hb hd -- 4
      have d3 : ac.tmps[24]?.getD undef = .agg #[.slice A n c, .int .i64 S] := by rw [← Array.getD_eq_getD_getElem?]; exact hd 3 (by decide)
      exact rstep_copied (A := A) (c := c) (by omega) (HR.out.below (HW2.out.trans (hb.mono HW2.out.size))) (by simp [Act.eval, d3, buV, go_sem]) rfl
    · intro _ ac wx hf hb hd -- 5
      have f5 : ac.tmps[5]?.getD undef = .pointer (some ⟨w.heap.size + 2, 0, none⟩) := by rw [← Array.getD_eq_getD_getElem?]; exact hf.same 5 (by decide)
      exact rstep_eq (by simp [execOp, Act.eval, f5, go_sem]) rfl
    · intro _ ac wx hf hb hd -- 6
      have d5 : ac.tmps[26]?.getD undef = .pointer (some ⟨w.heap.size + 2, 1, none⟩) := by rw [← Array.getD_eq_getD_getElem?]; exact hd 5 (by decide)
      obtain ⟨c0, c1, c2, c3, c4, c5, c6, c7⟩ := HC2.out wx hb
      exact rstep_eq (by simp [execOp, Act.eval, d5, c7, go_sem]) rfl
    · intro _ ac wx hf hb hd -- 7
      have d0 : ac.tmps[21]?.getD undef = .agg #[.int .i64 s, .int .i64 ww, .int .i64 t, .int .i64 en] := by rw [← Array.getD_eq_getD_getElem?]; exact hd 0 (by decide)
      have d2 : ac.tmps[23]?.getD undef = .int .i64 E := by rw [← Array.getD_eq_getD_getElem?]; exact hd 2 (by decide)
      obtain ⟨A4, cc4, d4, r4, -⟩ : ∃ A c, ac.tmps[25]?.getD undef = buV A n c S ∧ PtRow wx A n l ∧ _ := by rw [← Array.getD_eq_getD_getElem?]; exact hd 4 (by decide)
      have d6 : ac.tmps[27]?.getD undef = .int .i64 x := by rw [← Array.getD_eq_getD_getElem?]; exact hd 6 (by decide)
      refine rstep_call (f := 39) (args := #[.agg #[.int .i64 s, .int .i64 ww, .int .i64 t, .int .i64 en], .int .i64 E, buV A4 n cc4 S, .int .i64 x]) (by simp [Act.eval, d0, d2, d4, d6, go_sem]) ?_ rfl
      exact HSA.out _ _ _ r4
    · intro _ ac wx hf hb hd -- 8
      have d7 : ac.tmps[28]?.getD undef = .tuple #[.agg #[.int .i64 vn, .int .i64 vd], .int .i64 eh] := by rw [← Array.getD_eq_getD_getElem?]; exact hd 7 (by decide)
      exact rstep_eq (by simp [execOp, Act.eval, d7, go_sem]) rfl
    · intro _ ac wx hf hb hd -- 9
      have d8 : ac.tmps[20]?.getD undef = .tuple #[.agg #[.int .i64 vn, .int .i64 vd], .int .i64 eh] := by rw [← Array.getD_eq_getD_getElem?]; exact hd 8 (by decide)
      exact rstep_eq (by simp [execOp, Act.eval, d8, go_sem]) rfl
    · intro _ ac wx hf hb hd -- 10
      have d8 : ac.tmps[20]?.getD undef = .tuple #[.agg #[.int .i64 vn, .int .i64 vd], .int .i64 eh] := by rw [← Array.getD_eq_getD_getElem?]; exact hd 8 (by decide)
      exact rstep_eq (by simp [execOp, Act.eval, d8, go_sem]) rfl
    · intro _ ac wx hf hb hd -- 11
      exact rstep_alloc hb.size (by simp [execOp, go_sem]) rfl
    · intro h; cases h
    · intro h; cases h
  · refine ⟨?_, ?_, ?_, ?_, ?_, ?_, ?_, ?_, ?_, ?_, ?_, ?_, ?_, ?_, trivial⟩
    · intro h; cases h
    · intro h; cases h
    · intro h; cases h
    · intro h; cases h
    · intro h; cases h
    · intro h; cases h
    · intro h; cases h
    · intro h; cases h
    · intro h; cases h
    · intro h; cases h
    · intro _ ac wx hf hb hd -- 10
      have d8 : ac.tmps[20]?.getD undef = .tuple #[.agg #[.int .i64 vn, .int .i64 vd], .int .i64 eh] := by rw [← Array.getD_eq_getD_getElem?]; exact hd 8 (by decide)
      exact rstep_eq (by simp [execOp, Act.eval, d8, go_sem]) rfl
    · intro h; cases h
    · intro h; cases h
    · intro _ ac wx hf hb hd -- 13
      have d10 : ac.tmps[30]?.getD undef = .int .i64 eh := by rw [← Array.getD_eq_getD_getElem?]; exact hd 10 (by decide)
      exact rstep_eq (by simp [execOp, Act.eval, d10, go_sem]) rfl
  · intro o ac wx ho hf hb hd
    have ho2 : _ = o := Option.some.inj ho
    subst ho2
    clear ho
    obtain ⟨pb, dp, pb0, pb1, p0, p1, p2, p3⟩ : ∃ blk, ac.tmps[7]?.getD undef = .pointer (some ⟨blk, 0, none⟩) ∧ w2.heap.size ≤ blk ∧ blk < wx.heap.size ∧ wx.cell? ⟨blk, 0, none⟩ = some (.int .i64 0) ∧ wx.cell? ⟨blk, 1, none⟩ = some (.int .i64 0) ∧ wx.frozen? ⟨blk, 0, none⟩ = false ∧ wx.frozen? ⟨blk, 1, none⟩ = false := by rw [← Array.getD_eq_getD_getElem?]; exact hd 11 (by decide)
    have dv : ac.tmps[29]?.getD undef = .agg #[.int .i64 vn, .int .i64 vd] := by rw [← Array.getD_eq_getD_getElem?]; exact hd 9 (by decide)
    simp [Oper.wp, Oper.upon, execOp, Act.eval, go_sem, dp, dv, p0, p1, p2, p3]
    refine ⟨(hb.setCell (p := ⟨pb, 0, none⟩) pb0 _).setCell (p := ⟨pb, 1, none⟩) pb0 _, fun j d hj hL => ?_⟩
    match j, hj, hL with
    | 0, _, hL => exact hL
    | 1, _, hL => exact hL
    | 2, _, hL => exact hL
    | 3, _, hL => exact hL
    | 4, _, _ => exact trivial
    | 5, _, hL => exact hL
    | 6, _, hL => exact hL
    | 7, _, hL => exact hL
    | 8, _, hL => exact hL
    | 9, _, hL => exact hL
    | 10, _, hL => exact hL
    | 11, hj, _ =>
      cases hj
      exact ⟨pb, dp, pb0, by simpa using pb1, (World.cell?_setCell_other _ _ _ _ (by simp)).trans (World.cell?_setCell_same _ _ _ p0), World.cell?_setCell_same _ _ _ ((World.cell?_setCell_other _ _ _ _ (by simp)).trans p1)⟩
    | 12, _, _ => exact trivial
    | 13, _, hL => exact hL
    | _ + 14, hj, _ => simp at hj
  rintro ⟨⟨ll⟩, df⟩ w3 hf hbw3 hall
  have hdf : df = [] := hf.defers
  subst hdf
  have hsz : ll.length = 118 := hf.size
  obtain ⟨x0, ll0, rfl, hsz0⟩ := cons_of hsz
  obtain ⟨x1, ll1, rfl, hsz1⟩ := cons_of hsz0
  obtain ⟨x2, ll2, rfl, hsz2⟩ := cons_of hsz1
  obtain ⟨x3, ll3, rfl, hsz3⟩ := cons_of hsz2
  obtain ⟨x4, ll4, rfl, hsz4⟩ := cons_of hsz3
  obtain ⟨x5, ll5, rfl, hsz5⟩ := cons_of hsz4
  obtain ⟨x6, ll6, rfl, hsz6⟩ := cons_of hsz5
  obtain ⟨x7, ll7, rfl, hsz7⟩ := cons_of hsz6
  obtain ⟨x8, ll8, rfl, hsz8⟩ := cons_of hsz7
  obtain ⟨x9, ll9, rfl, hsz9⟩ := cons_of hsz8
  obtain ⟨x10, ll10, rfl, hsz10⟩ := cons_of hsz9
  obtain ⟨x11, ll11, rfl, hsz11⟩ := cons_of hsz10
  obtain ⟨x12, ll12, rfl, hsz12⟩ := cons_of hsz11
  obtain ⟨x13, ll13, rfl, hsz13⟩ := cons_of hsz12
  obtain ⟨x14, ll14, rfl, hsz14⟩ := cons_of hsz13
  obtain ⟨x15, ll15, rfl, hsz15⟩ := cons_of hsz14
  obtain ⟨x16, ll16, rfl, hsz16⟩ := cons_of hsz15
  obtain ⟨x17, ll17, rfl, hsz17⟩ := cons_of hsz16
  obtain ⟨x18, ll18, rfl, hsz18⟩ := cons_of hsz17
  obtain ⟨x19, ll19, rfl, hsz19⟩ := cons_of hsz18
  obtain ⟨x20, ll20, rfl, hsz20⟩ := cons_of hsz19
  obtain ⟨x21, ll21, rfl, hsz21⟩ := cons_of hsz20
  obtain ⟨x22, ll22, rfl, hsz22⟩ := cons_of hsz21
  obtain ⟨x23, ll23, rfl, hsz23⟩ := cons_of hsz22
  obtain ⟨x24, ll24, rfl, hsz24⟩ := cons_of hsz23
  obtain ⟨x25, ll25, rfl, hsz25⟩ := cons_of hsz24
  obtain ⟨x26, ll26, rfl, hsz26⟩ := cons_of hsz25
  obtain ⟨x27, ll27, rfl, hsz27⟩ := cons_of hsz26
  obtain ⟨x28, ll28, rfl, hsz28⟩ := cons_of hsz27
  obtain ⟨x29, ll29, rfl, hsz29⟩ := cons_of hsz28
  obtain ⟨x30, ll30, rfl, hsz30⟩ := cons_of hsz29
  obtain ⟨x31, ll31, rfl, hsz31⟩ := cons_of hsz30
  obtain ⟨x32, ll32, rfl, hsz32⟩ := cons_of hsz31
  obtain ⟨x33, ll33, rfl, hsz33⟩ := cons_of hsz32
  obtain ⟨x34, ll34, rfl, hsz34⟩ := cons_of hsz33
  obtain ⟨x35, ll35, rfl, hsz35⟩ := cons_of hsz34
  obtain ⟨x36, ll36, rfl, hsz36⟩ := cons_of hsz35
  obtain ⟨x37, ll37, rfl, hsz37⟩ := cons_of hsz36
  obtain ⟨x38, ll38, rfl, hsz38⟩ := cons_of hsz37
  obtain ⟨x39, ll39, rfl, hsz39⟩ := cons_of hsz38
  obtain ⟨x40, ll40, rfl, hsz40⟩ := cons_of hsz39
  obtain ⟨x41, ll41, rfl, hsz41⟩ := cons_of hsz40
  obtain ⟨x42, ll42, rfl, hsz42⟩ := cons_of hsz41
  obtain ⟨x43, ll43, rfl, hsz43⟩ := cons_of hsz42
  obtain ⟨x44, ll44, rfl, hsz44⟩ := cons_of hsz43
  obtain ⟨x45, ll45, rfl, hsz45⟩ := cons_of hsz44
  obtain ⟨x46, ll46, rfl, hsz46⟩ := cons_of hsz45
  obtain ⟨x47, ll47, rfl, hsz47⟩ := cons_of hsz46
  obtain ⟨x48, ll48, rfl, hsz48⟩ := cons_of hsz47
  obtain ⟨x49, ll49, rfl, hsz49⟩ := cons_of hsz48
  obtain ⟨x50, ll50, rfl, hsz50⟩ := cons_of hsz49
  obtain ⟨x51, ll51, rfl, hsz51⟩ := cons_of hsz50
  obtain ⟨x52, ll52, rfl, hsz52⟩ := cons_of hsz51
  obtain ⟨x53, ll53, rfl, hsz53⟩ := cons_of hsz52
  obtain ⟨x54, ll54, rfl, hsz54⟩ := cons_of hsz53
  obtain ⟨x55, ll55, rfl, hsz55⟩ := cons_of hsz54
  obtain ⟨x56, ll56, rfl, hsz56⟩ := cons_of hsz55
  obtain ⟨x57, ll57, rfl, hsz57⟩ := cons_of hsz56
  obtain ⟨x58, ll58, rfl, hsz58⟩ := cons_of hsz57
  obtain ⟨x59, ll59, rfl, hsz59⟩ := cons_of hsz58
  obtain ⟨x60, ll60, rfl, hsz60⟩ := cons_of hsz59
  obtain ⟨x61, ll61, rfl, hsz61⟩ := cons_of hsz60
  obtain ⟨x62, ll62, rfl, hsz62⟩ := cons_of hsz61
  obtain ⟨x63, ll63, rfl, hsz63⟩ := cons_of hsz62
  obtain ⟨x64, ll64, rfl, hsz64⟩ := cons_of hsz63
  obtain ⟨x65, ll65, rfl, hsz65⟩ := cons_of hsz64
  obtain ⟨x66, ll66, rfl, hsz66⟩ := cons_of hsz65
  obtain ⟨x67, ll67, rfl, hsz67⟩ := cons_of hsz66
  obtain ⟨x68, ll68, rfl, hsz68⟩ := cons_of hsz67
  obtain ⟨x69, ll69, rfl, hsz69⟩ := cons_of hsz68
  obtain ⟨x70, ll70, rfl, hsz70⟩ := cons_of hsz69
  obtain ⟨x71, ll71, rfl, hsz71⟩ := cons_of hsz70
  obtain ⟨x72, ll72, rfl, hsz72⟩ := cons_of hsz71
  obtain ⟨x73, ll73, rfl, hsz73⟩ := cons_of hsz72
  obtain ⟨x74, ll74, rfl, hsz74⟩ := cons_of hsz73
  obtain ⟨x75, ll75, rfl, hsz75⟩ := cons_of hsz74
  obtain ⟨x76, ll76, rfl, hsz76⟩ := cons_of hsz75
  obtain ⟨x77, ll77, rfl, hsz77⟩ := cons_of hsz76
  obtain ⟨x78, ll78, rfl, hsz78⟩ := cons_of hsz77
  obtain ⟨x79, ll79, rfl, hsz79⟩ := cons_of hsz78
  obtain ⟨x80, ll80, rfl, hsz80⟩ := cons_of hsz79
  obtain ⟨x81, ll81, rfl, hsz81⟩ := cons_of hsz80
  obtain ⟨x82, ll82, rfl, hsz82⟩ := cons_of hsz81
  obtain ⟨x83, ll83, rfl, hsz83⟩ := cons_of hsz82
  obtain ⟨x84, ll84, rfl, hsz84⟩ := cons_of hsz83
  obtain ⟨x85, ll85, rfl, hsz85⟩ := cons_of hsz84
  obtain ⟨x86, ll86, rfl, hsz86⟩ := cons_of hsz85
  obtain ⟨x87, ll87, rfl, hsz87⟩ := cons_of hsz86
  obtain ⟨x88, ll88, rfl, hsz88⟩ := cons_of hsz87
  obtain ⟨x89, ll89, rfl, hsz89⟩ := cons_of hsz88
  obtain ⟨x90, ll90, rfl, hsz90⟩ := cons_of hsz89
  obtain ⟨x91, ll91, rfl, hsz91⟩ := cons_of hsz90
  obtain ⟨x92, ll92, rfl, hsz92⟩ := cons_of hsz91
  obtain ⟨x93, ll93, rfl, hsz93⟩ := cons_of hsz92
  obtain ⟨x94, ll94, rfl, hsz94⟩ := cons_of hsz93
  obtain ⟨x95, ll95, rfl, hsz95⟩ := cons_of hsz94
  obtain ⟨x96, ll96, rfl, hsz96⟩ := cons_of hsz95
  obtain ⟨x97, ll97, rfl, hsz97⟩ := cons_of hsz96
  obtain ⟨x98, ll98, rfl, hsz98⟩ := cons_of hsz97
  obtain ⟨x99, ll99, rfl, hsz99⟩ := cons_of hsz98
  obtain ⟨x100, ll100, rfl, hsz100⟩ := cons_of hsz99
  obtain ⟨x101, ll101, rfl, hsz101⟩ := cons_of hsz100
  obtain ⟨x102, ll102, rfl, hsz102⟩ := cons_of hsz101
  obtain ⟨x103, ll103, rfl, hsz103⟩ := cons_of hsz102
  obtain ⟨x104, ll104, rfl, hsz104⟩ := cons_of hsz103
  obtain ⟨x105, ll105, rfl, hsz105⟩ := cons_of hsz104
  obtain ⟨x106, ll106, rfl, hsz106⟩ := cons_of hsz105
  obtain ⟨x107, ll107, rfl, hsz107⟩ := cons_of hsz106
  obtain ⟨x108, ll108, rfl, hsz108⟩ := cons_of hsz107
  obtain ⟨x109, ll109, rfl, hsz109⟩ := cons_of hsz108
  obtain ⟨x110, ll110, rfl, hsz110⟩ := cons_of hsz109
  obtain ⟨x111, ll111, rfl, hsz111⟩ := cons_of hsz110
  obtain ⟨x112, ll112, rfl, hsz112⟩ := cons_of hsz111
  obtain ⟨x113, ll113, rfl, hsz113⟩ := cons_of hsz112
  obtain ⟨x114, ll114, rfl, hsz114⟩ := cons_of hsz113
  obtain ⟨x115, ll115, rfl, hsz115⟩ := cons_of hsz114
  obtain ⟨x116, ll116, rfl, hsz116⟩ := cons_of hsz115
  obtain ⟨x117, ll117, rfl, hsz117⟩ := cons_of hsz116
  obtain rfl := List.eq_nil_of_length_eq_zero hsz117
  obtain rfl : x3 = .pointer (some ⟨w.heap.size, 0, none⟩) := hf.same 3 (by decide)
  obtain rfl : x4 = .pointer (some ⟨w.heap.size + 1, 0, none⟩) := hf.same 4 (by decide)
  obtain rfl : x5 = .pointer (some ⟨w.heap.size + 2, 0, none⟩) := hf.same 5 (by decide)
  obtain rfl : x8 = .int .i64 eh := hall 13 8 rfl
  obtain rfl : x20 = .tuple #[.agg #[.int .i64 vn, .int .i64 vd], .int .i64 eh] := hall 8 20 rfl
  obtain rfl : x21 = .agg #[.int .i64 s, .int .i64 ww, .int .i64 t, .int .i64 en] := hall 0 21 rfl
  obtain rfl : x22 = .pointer (some ⟨w.heap.size + 2, 0, none⟩) := hall 1 22 rfl
  obtain rfl : x23 = .int .i64 E := hall 2 23 rfl
  obtain rfl : x24 = .agg #[.slice A n c, .int .i64 S] := hall 3 24 rfl
  obtain rfl : x26 = .pointer (some ⟨w.heap.size + 2, 1, none⟩) := hall 5 26 rfl
  obtain rfl : x27 = .int .i64 x := hall 6 27 rfl
  obtain rfl : x28 = .tuple #[.agg #[.int .i64 vn, .int .i64 vd], .int .i64 eh] := hall 7 28 rfl
  obtain rfl : x29 = .agg #[.int .i64 vn, .int .i64 vd] := hall 9 29 rfl
  obtain rfl : x30 = .int .i64 eh := hall 10 30 rfl
  obtain ⟨pw3, hxw3, plw3, psw3, paw3, pcw3⟩ : ∃ blk, x7 = .pointer (some ⟨blk, 0, none⟩) ∧ w2.heap.size ≤ blk ∧ blk < w3.heap.size ∧ w3.cell? ⟨blk, 0, none⟩ = some (.int .i64 vn) ∧ w3.cell? ⟨blk, 1, none⟩ = some (.int .i64 vd) := hall 11 7 rfl
  subst hxw3
  clear hall hf
  have H3 := Lib.hid (H2.out.trans (hbw3.mono H2.out.size))
  have HC3 := Lib.hid (fun wy (hy : Below w3.heap.size w3 wy) => HC.out wy (H3.out.trans (hy.mono H3.out.size)))
  have HW3 := Lib.hid (HB0.out.trans (H3.out.mono HB0.out.size))
  clear hbw3
  go_upto_region 6 with fail
  refine wp_region_one [32, 33, 34, 35, 36, 37, 31, 38, 39, 40, 10, 9, 117, 11] 12 [rEq (.agg #[.int .i64 s, .int .i64 ww, .int .i64 t, .int .i64 en]), rEq (.pointer (some ⟨w.heap.size + 2, 0, none⟩)), rEq (.int .i64 E), rEq (.agg #[.slice A n c, .int .i64 S]), (rBur 0 l n S), rEq (.tuple #[.int .i64 p, .agg #[.int .i64 mn, .int .i64 md], .int .i64 fh]), rEq (.tuple #[.int .i64 p, .agg #[.int .i64 mn, .int .i64 md], .int .i64 fh]), rEq (.int .i64 p), rEq (.agg #[.int .i64 mn, .int .i64 md]), rEq (.int .i64 fh), (rPtr0 w3.heap.size), rEq (.int .i64 p), (rAny), rEq (.int .i64 fh)] [rEq (.agg #[.int .i64 s, .int .i64 ww, .int .i64 t, .int .i64 en]), rEq (.pointer (some ⟨w.heap.size + 2, 0, none⟩)), rEq (.int .i64 E), rEq (.agg #[.slice A n c, .int .i64 S]), (rAny), rEq (.tuple #[.int .i64 p, .agg #[.int .i64 mn, .int .i64 md], .int .i64 fh]), rEq (.tuple #[.int .i64 p, .agg #[.int .i64 mn, .int .i64 md], .int .i64 fh]), rEq (.int .i64 p), rEq (.agg #[.int .i64 mn, .int .i64 md]), rEq (.int .i64 fh), (rPtr1 w3.heap.size mn md), rEq (.int .i64 p), (rAny), rEq (.int .i64 fh)] [12, 13] [0, 1, 2, 3, 4, 5, 6, 7, 8, 10, 11, 12] (by kernel_rfl) (by kernel_rfl) (by decide) rfl ?_ (by decide) ?_ ?_ rfl ?_ ?_ ?_ ?_
  · intro i h
    have hi := stores_lt h
    revert h
    revert hi
    revert i
    decide +kernel
  · intro i o ho he
    have he' : i = 12 ∨ i = 13 := by simpa using he
    rcases he' with rfl | rfl
    · exact .inl rfl
    · cases ho; exact .inr (by decide)
  · intro i os ho hi he
    cases ho
    revert he
    revert hi
    revert i
    decide +kernel
  · refine ⟨?_, ?_, ?_, ?_, ?_, ?_, ?_, ?_, ?_, ?_, ?_, ?_, ?_, ?_, trivial⟩
    · intro _ ac wx hf hb hd -- 0
      have f3 : ac.tmps[3]?.getD undef = .pointer (some ⟨w.heap.size, 0, none⟩) := by rw [← Array.getD_eq_getD_getElem?]; exact hf.same 3 (by decide)
      obtain ⟨c0, c1, c2, c3, c4, c5, c6, c7⟩ := HC3.out wx hb
      exact rstep_eq (by simp [execOp, Act.eval, f3, c0, c1, c2, c3, go_sem]) rfl
    · intro _ ac wx hf hb hd -- 1
      have f5 : ac.tmps[5]?.getD undef = .pointer (some ⟨w.heap.size + 2, 0, none⟩) := by rw [← Array.getD_eq_getD_getElem?]; exact hf.same 5 (by decide)
      exact rstep_eq (by simp [execOp, Act.eval, f5, go_sem]) rfl
    · intro _ ac wx hf hb hd -- 2
      have d1 : ac.tmps[33]?.getD undef = .pointer (some ⟨w.heap.size + 2, 0, none⟩) := by rw [← Array.getD_eq_getD_getElem?]; exact hd 1 (by decide)
      obtain ⟨c0, c1, c2, c3, c4, c5, c6, c7⟩ := HC3.out wx hb
      exact rstep_eq (by simp [execOp, Act.eval, d1, c6, go_sem]) rfl
    · intro _ ac wx hf hb hd -- 3
      have f4 : ac.tmps[4]?.getD undef = .pointer (some ⟨w.heap.size + 1, 0, none⟩) := by rw [← Array.getD_eq_getD_getElem?]; exact hf.same 4 (by decide)
      obtain ⟨c0, c1, c2, c3, c4, c5, c6, c7⟩ := HC3.out wx hb
      exact rstep_eq (by simp [execOp, Act.eval, f4, c4, c5, go_sem]) rfl
    · intro _ ac wx hf hb hd -- 4
      have d3 : ac.tmps[35]?.getD undef = .agg #[.slice A n c, .int .i64 S] := by rw [← Array.getD_eq_getD_getElem?]; exact hd 3 (by decide)
      exact rstep_copied (A := A) (c := c) (by omega) (HR.out.below (HW3.out.trans (hb.mono HW3.out.size))) (by simp [Act.eval, d3, buV, go_sem]) rfl
    · intro _ ac wx hf hb hd -- 5
      have d0 : ac.tmps[32]?.getD undef = .agg #[.int .i64 s, .int .i64 ww, .int .i64 t, .int .i64 en] := by rw [← Array.getD_eq_getD_getElem?]; exact hd 0 (by decide)
      have d2 : ac.tmps[34]?.getD undef = .int .i64 E := by rw [← Array.getD_eq_getD_getElem?]; exact hd 2 (by decide)
      obtain ⟨A4, cc4, d4, r4, -⟩ : ∃ A c, ac.tmps[36]?.getD undef = buV A n c S ∧ PtRow wx A n l ∧ _ := by rw [← Array.getD_eq_getD_getElem?]; exact hd 4 (by decide)
      refine rstep_call (f := 40) (args := #[.agg #[.int .i64 s, .int .i64 ww, .int .i64 t, .int .i64 en], .int .i64 E, buV A4 n cc4 S]) (by simp [Act.eval, d0, d2, d4, go_sem]) ?_ rfl
      exact HGS.out _ _ _ r4
    · intro _ ac wx hf hb hd -- 6
      have d5 : ac.tmps[37]?.getD undef = .tuple #[.int .i64 p, .agg #[.int .i64 mn, .int .i64 md], .int .i64 fh] := by rw [← Array.getD_eq_getD_getElem?]; exact hd 5 (by decide)
      exact rstep_eq (by simp [execOp, Act.eval, d5, go_sem]) rfl
    · intro _ ac wx hf hb hd -- 7
      have d6 : ac.tmps[31]?.getD undef = .tuple #[.int .i64 p, .agg #[.int .i64 mn, .int .i64 md], .int .i64 fh] := by rw [← Array.getD_eq_getD_getElem?]; exact hd 6 (by decide)
      exact rstep_eq (by simp [execOp, Act.eval, d6, go_sem]) rfl
    · intro _ ac wx hf hb hd -- 8
      have d6 : ac.tmps[31]?.getD undef = .tuple #[.int .i64 p, .agg #[.int .i64 mn, .int .i64 md], .int .i64 fh] := by rw [← Array.getD_eq_getD_getElem?]; exact hd 6 (by decide)
      exact rstep_eq (by simp [execOp, Act.eval, d6, go_sem]) rfl
    · intro _ ac wx hf hb hd -- 9
      have d6 : ac.tmps[31]?.getD undef = .tuple #[.int .i64 p, .agg #[.int .i64 mn, .int .i64 md], .int .i64 fh] := by rw [← Array.getD_eq_getD_getElem?]; exact hd 6 (by decide)
      exact rstep_eq (by simp [execOp, Act.eval, d6, go_sem]) rfl
    · intro _ ac wx hf hb hd -- 10
      exact rstep_alloc hb.size (by simp [execOp, go_sem]) rfl
    · intro _ ac wx hf hb hd -- 11
      have d7 : ac.tmps[38]?.getD undef = .int .i64 p := by rw [← Array.getD_eq_getD_getElem?]; exact hd 7 (by decide)
      exact rstep_eq (by simp [execOp, Act.eval, d7, go_sem]) rfl
    · intro h; cases h
    · intro h; cases h
  · refine ⟨?_, ?_, ?_, ?_, ?_, ?_, ?_, ?_, ?_, ?_, ?_, ?_, ?_, ?_, trivial⟩
    · intro h; cases h
    · intro h; cases h
    · intro h; cases h
    · intro h; cases h
    · intro h; cases h
    · intro h; cases h
    · intro h; cases h
    · intro h; cases h
    · intro h; cases h
    · intro _ ac wx hf hb hd -- 9
      have d6 : ac.tmps[31]?.getD undef = .tuple #[.int .i64 p, .agg #[.int .i64 mn, .int .i64 md], .int .i64 fh] := by rw [← Array.getD_eq_getD_getElem?]; exact hd 6 (by decide)
      exact rstep_eq (by simp [execOp, Act.eval, d6, go_sem]) rfl
    · intro h; cases h
    · intro h; cases h
    · intro h; cases h
    · intro _ ac wx hf hb hd -- 13
      have d9 : ac.tmps[40]?.getD undef = .int .i64 fh := by rw [← Array.getD_eq_getD_getElem?]; exact hd 9 (by decide)
      exact rstep_eq (by simp [execOp, Act.eval, d9, go_sem]) rfl
  · intro o ac wx ho hf hb hd
    have ho2 : _ = o := Option.some.inj ho
    subst ho2
    clear ho
    obtain ⟨pb, dp, pb0, pb1, p0, p1, p2, p3⟩ : ∃ blk, ac.tmps[10]?.getD undef = .pointer (some ⟨blk, 0, none⟩) ∧ w3.heap.size ≤ blk ∧ blk < wx.heap.size ∧ wx.cell? ⟨blk, 0, none⟩ = some (.int .i64 0) ∧ wx.cell? ⟨blk, 1, none⟩ = some (.int .i64 0) ∧ wx.frozen? ⟨blk, 0, none⟩ = false ∧ wx.frozen? ⟨blk, 1, none⟩ = false := by rw [← Array.getD_eq_getD_getElem?]; exact hd 10 (by decide)
    have dv : ac.tmps[39]?.getD undef = .agg #[.int .i64 mn, .int .i64 md] := by rw [← Array.getD_eq_getD_getElem?]; exact hd 8 (by decide)
    simp [Oper.wp, Oper.upon, execOp, Act.eval, go_sem, dp, dv, p0, p1, p2, p3]
    refine ⟨(hb.setCell (p := ⟨pb, 0, none⟩) pb0 _).setCell (p := ⟨pb, 1, none⟩) pb0 _, fun j d hj hL => ?_⟩
    match j, hj, hL with
    | 0, _, hL => exact hL
    | 1, _, hL => exact hL
    | 2, _, hL => exact hL
    | 3, _, hL => exact hL
    | 4, _, _ => exact trivial
    | 5, _, hL => exact hL
    | 6, _, hL => exact hL
    | 7, _, hL => exact hL
    | 8, _, hL => exact hL
    | 9, _, hL => exact hL
    | 10, hj, _ =>
      cases hj
      exact ⟨pb, dp, pb0, by simpa using pb1, (World.cell?_setCell_other _ _ _ _ (by simp)).trans (World.cell?_setCell_same _ _ _ p0), World.cell?_setCell_same _ _ _ ((World.cell?_setCell_other _ _ _ _ (by simp)).trans p1)⟩
    | 11, _, hL => exact hL
    | 12, _, _ => exact trivial
    | 13, _, hL => exact hL
    | _ + 14, hj, _ => simp at hj
  rintro ⟨⟨ll⟩, df⟩ w4 hf hbw4 hall
  have hdf : df = [] := hf.defers
  subst hdf
  have hsz : ll.length = 118 := hf.size
  obtain ⟨x0, ll0, rfl, hsz0⟩ := cons_of hsz
  obtain ⟨x1, ll1, rfl, hsz1⟩ := cons_of hsz0
  obtain ⟨x2, ll2, rfl, hsz2⟩ := cons_of hsz1
  obtain ⟨x3, ll3, rfl, hsz3⟩ := cons_of hsz2
  obtain ⟨x4, ll4, rfl, hsz4⟩ := cons_of hsz3
  obtain ⟨x5, ll5, rfl, hsz5⟩ := cons_of hsz4
  obtain ⟨x6, ll6, rfl, hsz6⟩ := cons_of hsz5
  obtain ⟨x7, ll7, rfl, hsz7⟩ := cons_of hsz6
  obtain ⟨x8, ll8, rfl, hsz8⟩ := cons_of hsz7
  obtain ⟨x9, ll9, rfl, hsz9⟩ := cons_of hsz8
  obtain ⟨x10, ll10, rfl, hsz10⟩ := cons_of hsz9
  obtain ⟨x11, ll11, rfl, hsz11⟩ := cons_of hsz10
  obtain ⟨x12, ll12, rfl, hsz12⟩ := cons_of hsz11
  obtain ⟨x13, ll13, rfl, hsz13⟩ := cons_of hsz12
  obtain ⟨x14, ll14, rfl, hsz14⟩ := cons_of hsz13
  obtain ⟨x15, ll15, rfl, hsz15⟩ := cons_of hsz14
  obtain ⟨x16, ll16, rfl, hsz16⟩ := cons_of hsz15
  obtain ⟨x17, ll17, rfl, hsz17⟩ := cons_of hsz16
  obtain ⟨x18, ll18, rfl, hsz18⟩ := cons_of hsz17
  obtain ⟨x19, ll19, rfl, hsz19⟩ := cons_of hsz18
  obtain ⟨x20, ll20, rfl, hsz20⟩ := cons_of hsz19
  obtain ⟨x21, ll21, rfl, hsz21⟩ := cons_of hsz20
  obtain ⟨x22, ll22, rfl, hsz22⟩ := cons_of hsz21
  obtain ⟨x23, ll23, rfl, hsz23⟩ := cons_of hsz22
  obtain ⟨x24, ll24, rfl, hsz24⟩ := cons_of hsz23
  obtain ⟨x25, ll25, rfl, hsz25⟩ := cons_of hsz24
  obtain ⟨x26, ll26, rfl, hsz26⟩ := cons_of hsz25
  obtain ⟨x27, ll27, rfl, hsz27⟩ := cons_of hsz26
  obtain ⟨x28, ll28, rfl, hsz28⟩ := cons_of hsz27
  obtain ⟨x29, ll29, rfl, hsz29⟩ := cons_of hsz28
  obtain ⟨x30, ll30, rfl, hsz30⟩ := cons_of hsz29
  obtain ⟨x31, ll31, rfl, hsz31⟩ := cons_of hsz30
  obtain ⟨x32, ll32, rfl, hsz32⟩ := cons_of hsz31
  obtain ⟨x33, ll33, rfl, hsz33⟩ := cons_of hsz32
  obtain ⟨x34, ll34, rfl, hsz34⟩ := cons_of hsz33
  obtain ⟨x35, ll35, rfl, hsz35⟩ := cons_of hsz34
  obtain ⟨x36, ll36, rfl, hsz36⟩ := cons_of hsz35
  obtain ⟨x37, ll37, rfl, hsz37⟩ := cons_of hsz36
  obtain ⟨x38, ll38, rfl, hsz38⟩ := cons_of hsz37
  obtain ⟨x39, ll39, rfl, hsz39⟩ := cons_of hsz38
  obtain ⟨x40, ll40, rfl, hsz40⟩ := cons_of hsz39
  obtain ⟨x41, ll41, rfl, hsz41⟩ := cons_of hsz40
  obtain ⟨x42, ll42, rfl, hsz42⟩ := cons_of hsz41
  obtain ⟨x43, ll43, rfl, hsz43⟩ := cons_of hsz42
  obtain ⟨x44, ll44, rfl, hsz44⟩ := cons_of hsz43
  obtain ⟨x45, ll45, rfl, hsz45⟩ := cons_of hsz44
  obtain ⟨x46, ll46, rfl, hsz46⟩ := cons_of hsz45
  obtain ⟨x47, ll47, rfl, hsz47⟩ := cons_of hsz46
  obtain ⟨x48, ll48, rfl, hsz48⟩ := cons_of hsz47
  obtain ⟨x49, ll49, rfl, hsz49⟩ := cons_of hsz48
  obtain ⟨x50, ll50, rfl, hsz50⟩ := cons_of hsz49
  obtain ⟨x51, ll51, rfl, hsz51⟩ := cons_of hsz50
  obtain ⟨x52, ll52, rfl, hsz52⟩ := cons_of hsz51
  obtain ⟨x53, ll53, rfl, hsz53⟩ := cons_of hsz52
  obtain ⟨x54, ll54, rfl, hsz54⟩ := cons_of hsz53
  obtain ⟨x55, ll55, rfl, hsz55⟩ := cons_of hsz54
  obtain ⟨x56, ll56, rfl, hsz56⟩ := cons_of hsz55
  obtain ⟨x57, ll57, rfl, hsz57⟩ := cons_of hsz56
  obtain ⟨x58, ll58, rfl, hsz58⟩ := cons_of hsz57
  obtain ⟨x59, ll59, rfl, hsz59⟩ := cons_of hsz58
  obtain ⟨x60, ll60, rfl, hsz60⟩ := cons_of hsz59
  obtain ⟨x61, ll61, rfl, hsz61⟩ := cons_of hsz60
  obtain ⟨x62, ll62, rfl, hsz62⟩ := cons_of hsz61
  obtain ⟨x63, ll63, rfl, hsz63⟩ := cons_of hsz62
  obtain ⟨x64, ll64, rfl, hsz64⟩ := cons_of hsz63
  obtain ⟨x65, ll65, rfl, hsz65⟩ := cons_of hsz64
  obtain ⟨x66, ll66, rfl, hsz66⟩ := cons_of hsz65
  obtain ⟨x67, ll67, rfl, hsz67⟩ := cons_of hsz66
  obtain ⟨x68, ll68, rfl, hsz68⟩ := cons_of hsz67
  obtain ⟨x69, ll69, rfl, hsz69⟩ := cons_of hsz68
  obtain ⟨x70, ll70, rfl, hsz70⟩ := cons_of hsz69
  obtain ⟨x71, ll71, rfl, hsz71⟩ := cons_of hsz70
  obtain ⟨x72, ll72, rfl, hsz72⟩ := cons_of hsz71
  obtain ⟨x73, ll73, rfl, hsz73⟩ := cons_of hsz72
  obtain ⟨x74, ll74, rfl, hsz74⟩ := cons_of hsz73
  obtain ⟨x75, ll75, rfl, hsz75⟩ := cons_of hsz74
  obtain ⟨x76, ll76, rfl, hsz76⟩ := cons_of hsz75
  obtain ⟨x77, ll77, rfl, hsz77⟩ := cons_of hsz76
  obtain ⟨x78, ll78, rfl, hsz78⟩ := cons_of hsz77
  obtain ⟨x79, ll79, rfl, hsz79⟩ := cons_of hsz78
  obtain ⟨x80, ll80, rfl, hsz80⟩ := cons_of hsz79
  obtain ⟨x81, ll81, rfl, hsz81⟩ := cons_of hsz80
  obtain ⟨x82, ll82, rfl, hsz82⟩ := cons_of hsz81
  obtain ⟨x83, ll83, rfl, hsz83⟩ := cons_of hsz82
  obtain ⟨x84, ll84, rfl, hsz84⟩ := cons_of hsz83
  obtain ⟨x85, ll85, rfl, hsz85⟩ := cons_of hsz84
  obtain ⟨x86, ll86, rfl, hsz86⟩ := cons_of hsz85
  obtain ⟨x87, ll87, rfl, hsz87⟩ := cons_of hsz86
  obtain ⟨x88, ll88, rfl, hsz88⟩ := cons_of hsz87
  obtain ⟨x89, ll89, rfl, hsz89⟩ := cons_of hsz88
  obtain ⟨x90, ll90, rfl, hsz90⟩ := cons_of hsz89
  obtain ⟨x91, ll91, rfl, hsz91⟩ := cons_of hsz90
  obtain ⟨x92, ll92, rfl, hsz92⟩ := cons_of hsz91
  obtain ⟨x93, ll93, rfl, hsz93⟩ := cons_of hsz92
  obtain ⟨x94, ll94, rfl, hsz94⟩ := cons_of hsz93
  obtain ⟨x95, ll95, rfl, hsz95⟩ := cons_of hsz94
  obtain ⟨x96, ll96, rfl, hsz96⟩ := cons_of hsz95
  obtain ⟨x97, ll97, rfl, hsz97⟩ := cons_of hsz96
  obtain ⟨x98, ll98, rfl, hsz98⟩ := cons_of hsz97
  obtain ⟨x99, ll99, rfl, hsz99⟩ := cons_of hsz98
  obtain ⟨x100, ll100, rfl, hsz100⟩ := cons_of hsz99
  obtain ⟨x101, ll101, rfl, hsz101⟩ := cons_of hsz100
  obtain ⟨x102, ll102, rfl, hsz102⟩ := cons_of hsz101
  obtain ⟨x103, ll103, rfl, hsz103⟩ := cons_of hsz102
  obtain ⟨x104, ll104, rfl, hsz104⟩ := cons_of hsz103
  obtain ⟨x105, ll105, rfl, hsz105⟩ := cons_of hsz104
  obtain ⟨x106, ll106, rfl, hsz106⟩ := cons_of hsz105
  obtain ⟨x107, ll107, rfl, hsz107⟩ := cons_of hsz106
  obtain ⟨x108, ll108, rfl, hsz108⟩ := cons_of hsz107
  obtain ⟨x109, ll109, rfl, hsz109⟩ := cons_of hsz108
  obtain ⟨x110, ll110, rfl, hsz110⟩ := cons_of hsz109
  obtain ⟨x111, ll111, rfl, hsz111⟩ := cons_of hsz110
  obtain ⟨x112, ll112, rfl, hsz112⟩ := cons_of hsz111
  obtain ⟨x113, ll113, rfl, hsz113⟩ := cons_of hsz112
  obtain ⟨x114, ll114, rfl, hsz114⟩ := cons_of hsz113
  obtain ⟨x115, ll115, rfl, hsz115⟩ := cons_of hsz114
  obtain ⟨x116, ll116, rfl, hsz116⟩ := cons_of hsz115
  obtain ⟨x117, ll117, rfl, hsz117⟩ := cons_of hsz116
  obtain rfl := List.eq_nil_of_length_eq_zero hsz117
  obtain rfl : x3 = .pointer (some ⟨w.heap.size, 0, none⟩) := hf.same 3 (by decide)
  obtain rfl : x4 = .pointer (some ⟨w.heap.size + 1, 0, none⟩) := hf.same 4 (by decide)
  obtain rfl : x5 = .pointer (some ⟨w.heap.size + 2, 0, none⟩) := hf.same 5 (by decide)
  obtain rfl : x7 = .pointer (some ⟨pw3, 0, none⟩) := hf.same 7 (by decide)
  obtain rfl : x8 = .int .i64 eh := hf.same 8 (by decide)
  obtain rfl : x9 = .int .i64 p := hall 11 9 rfl
  obtain rfl : x11 = .int .i64 fh := hall 13 11 rfl
  obtain rfl : x31 = .tuple #[.int .i64 p, .agg #[.int .i64 mn, .int .i64 md], .int .i64 fh] := hall 6 31 rfl
  obtain rfl : x32 = .agg #[.int .i64 s, .int .i64 ww, .int .i64 t, .int .i64 en] := hall 0 32 rfl
  obtain rfl : x33 = .pointer (some ⟨w.heap.size + 2, 0, none⟩) := hall 1 33 rfl
  obtain rfl : x34 = .int .i64 E := hall 2 34 rfl
  obtain rfl : x35 = .agg #[.slice A n c, .int .i64 S] := hall 3 35 rfl
  obtain rfl : x37 = .tuple #[.int .i64 p, .agg #[.int .i64 mn, .int .i64 md], .int .i64 fh] := hall 5 37 rfl
  obtain rfl : x38 = .int .i64 p := hall 7 38 rfl
  obtain rfl : x39 = .agg #[.int .i64 mn, .int .i64 md] := hall 8 39 rfl
  obtain rfl : x40 = .int .i64 fh := hall 9 40 rfl
  obtain ⟨pw4, hxw4, plw4, psw4, paw4, pcw4⟩ : ∃ blk, x10 = .pointer (some ⟨blk, 0, none⟩) ∧ w3.heap.size ≤ blk ∧ blk < w4.heap.size ∧ w4.cell? ⟨blk, 0, none⟩ = some (.int .i64 mn) ∧ w4.cell? ⟨blk, 1, none⟩ = some (.int .i64 md) := hall 10 10 rfl
  subst hxw4
  clear hall hf
  have H4 := Lib.hid (H3.out.trans (hbw4.mono H3.out.size))
  have hw3 := hbw4.size
  have q0 := ((bcell hbw4).1 _ _ psw3).trans paw3
  have q1 := ((bcell hbw4).1 _ _ psw3).trans pcw3
  have psw3' : pw3 < w4.heap.size := by omega
  obtain ⟨k0, k1, k2, k3, k4, k5, k6, k7⟩ := HC.out w4 H4.out
  clear hbw4 paw3 pcw3
  go_upto_region 8 with (go_at_call 23; (refine Calls.mono (HCB.out _ (HB0.out.trans (H4.out.mono HB0.out.size))) ?_); rintro e w6 ⟨rfl, hb6⟩; have H6 := Lib.hid (H4.out.trans (hb6.mono H4.out.size)); have r0 := ((bcell hb6).1 _ _ psw3').trans q0; have r1 := ((bcell hb6).1 _ _ psw3').trans q1; have r2 := ((bcell hb6).1 _ _ psw4).trans paw4; have r3 := ((bcell hb6).1 _ _ psw4).trans pcw4; clear hb6)
  clear q0 q1 paw4 pcw4 k0 k1 k2 k3 k4 k5 k6 k7
  obtain ⟨m0, m1, m2, m3, m4, m5, m6, m7⟩ := HC.out w6 H6.out
  have lw3 : pw3 < w6.heap.size := World.block_lt_of_cell? w6 _ r0
  have lw4 : pw4 < w6.heap.size := World.block_lt_of_cell? w6 _ r2
  have H6W := Lib.hid (HB0.out.trans (H6.out.mono HB0.out.size))
  have NO := fun wx b (h0 : World.cell? wx ⟨b, 0, none⟩ = some (.int .i64 0)) (h1 : World.cell? wx ⟨b, 1, none⟩ = some (.int .i64 0)) (h2 : World.cell? wx ⟨b, 2, none⟩ = some (.int .i64 0)) (h3 : World.cell? wx ⟨b, 3, none⟩ = some (.int .i64 0)) => Lib.hid (none_two (c := 2) wx h0 h1 h2 h3)
  have NO1 := fun wx b (h0 : World.cell? wx ⟨b, 0, none⟩ = some (.int .i64 0)) (h1 : World.cell? wx ⟨b, 1, none⟩ = some (.int .i64 0)) => Lib.hid (none_one (c := 1) wx h0 h1)
  clear psw3' psw3 psw4 hw3 plw3 plw4
  rcases HH.out with ⟨hdz, rfl, rfl, rfl, rfl, rfl, rfl, rfl⟩ | ⟨rfl, rfl, rfl, rfl, rfl, rfl, rfl, rfl, rfl⟩ | ⟨rfl, rfl, rfl, rfl, rfl, rfl, rfl⟩ | ⟨rfl, rfl, rfl, rfl, rfl⟩
  · have hde : (fh == 0) = false := by simpa using hdz
    go_wp2_with (go_at_call 27; (refine Calls.mono (NO _ _ (by simp [go_sem]) (by simp [go_sem]) (by simp [go_sem]) (by simp [go_sem])).out ?_); rintro e w7 ⟨rfl, rfl⟩)
    go_ret
    exact ⟨rfl, HB0.out.trans ((H6.out.alloc H6.out.size _).mono HB0.out.size)⟩
  · go_wp2_with (first | (go_at_call 41; (refine Calls.mono (HIS.out _) ?_); rintro e w9 ⟨rfl, rfl⟩) | (go_at_call 27; (refine Calls.mono (NO _ _ (by simp [go_sem]) (by simp [go_sem]) (by simp [go_sem]) (by simp [go_sem])).out ?_); rintro e w7 ⟨rfl, rfl⟩) | fail)
    go_ret
    exact ⟨rfl, HB0.out.trans ((H6.out.alloc H6.out.size _).mono HB0.out.size)⟩
  · have RG2 := HRG.out rfl rfl
    have HRG2 := Lib.hid RG2
    clear HRG RG2 HRS HSA HGS HCB
    go_upto_region 13 with (first | (go_at_call 41; (refine Calls.mono (HIS.out _) ?_); rintro e w9 ⟨rfl, rfl⟩) | (go_at_call 42; (refine Calls.mono (HRG2.out _ H6W.out) ?_); rintro e w7 ⟨rfl, hb7⟩; have H7 := Lib.hid hb7; clear hb7) | fail)
    obtain ⟨w8, hw8⟩ : ∃ w8, w7.alloc (.cells #[.int .i64 mn, .int .i64 md] 30) = w8 := ⟨_, rfl⟩
    have H8 : Hid (Below w6.heap.size w6 w8) := Lib.hid (by rw [← hw8]; exact H7.out.alloc H7.out.size _)
    have u0 : w8.cell? ⟨w7.heap.size, 0, none⟩ = some (.int .i64 mn) := by rw [← hw8]; simp [go_sem]
    have u1 : w8.cell? ⟨w7.heap.size, 1, none⟩ = some (.int .i64 md) := by rw [← hw8]; simp [go_sem]
    have v0 := ((bcell H8.out).1 _ _ lw3).trans r0
    have v1 := ((bcell H8.out).1 _ _ lw3).trans r1
    have v2 := ((bcell H8.out).1 _ _ lw4).trans r2
    have v3 := ((bcell H8.out).1 _ _ lw4).trans r3
    obtain ⟨j0, j1, j2, j3, j4, j5, j6, j7⟩ := HC.out w8 (H6.out.trans (H8.out.mono H6.out.size))
    rw [hw8]
    clear hw8 r0 r1 r2 r3 m0 m1 m2 m3 m4 m5 m6 m7
    go_upto_region 15 with fail
    go_wp2_with (first | (go_at_call 32; (refine Calls.mono (HWI.out _) ?_); rintro e w9 ⟨rfl, rfl⟩) | (go_at_call 27; (refine Calls.mono (NO1 _ _ (by simp [go_sem]) (by simp [go_sem])).out ?_); rintro e w9 ⟨rfl, rfl⟩) | fail)
    go_ret
    exact ⟨rfl, HB0.out.trans ((H6.out.trans ((H8.out.alloc H8.out.size _).mono H6.out.size)).mono HB0.out.size)⟩
  · have RG2 := HRG.out rfl rfl
    have HRG2 := Lib.hid RG2
    have RS2 := HRS.out rfl rfl rfl
    have HRS2 := Lib.hid RS2
    clear HRG RG2 HRS RS2 HSA HGS HCB
    go_upto_region 13 with (first | (go_at_call 41; (refine Calls.mono (HIS.out _) ?_); rintro e w9 ⟨rfl, rfl⟩) | (go_at_call 42; (refine Calls.mono (HRG2.out _ H6W.out) ?_); rintro e w7 ⟨rfl, hb7⟩; have H7 := Lib.hid hb7; clear hb7) | fail)
    obtain ⟨w8, hw8⟩ : ∃ w8, w7.alloc (.cells #[.int .i64 mn, .int .i64 md] 30) = w8 := ⟨_, rfl⟩
    have H8 : Hid (Below w6.heap.size w6 w8) := Lib.hid (by rw [← hw8]; exact H7.out.alloc H7.out.size _)
    have u0 : w8.cell? ⟨w7.heap.size, 0, none⟩ = some (.int .i64 mn) := by rw [← hw8]; simp [go_sem]
    have u1 : w8.cell? ⟨w7.heap.size, 1, none⟩ = some (.int .i64 md) := by rw [← hw8]; simp [go_sem]
    have v0 := ((bcell H8.out).1 _ _ lw3).trans r0
    have v1 := ((bcell H8.out).1 _ _ lw3).trans r1
    have v2 := ((bcell H8.out).1 _ _ lw4).trans r2
    have v3 := ((bcell H8.out).1 _ _ lw4).trans r3
    obtain ⟨j0, j1, j2, j3, j4, j5, j6, j7⟩ := HC.out w8 (H6.out.trans (H8.out.mono H6.out.size))
    rw [hw8]
    clear hw8 r0 r1 r2 r3 m0 m1 m2 m3 m4 m5 m6 m7
    go_upto_region 15 with fail
    go_upto_region 17 with (go_at_call 32; (refine Calls.mono (HWI.out _) ?_); rintro e w9 ⟨rfl, rfl⟩)
    have H8W := Lib.hid (HB0.out.trans ((H6.out.trans (H8.out.mono H6.out.size)).mono HB0.out.size))
    have lv3 : pw3 < w8.heap.size := World.block_lt_of_cell? w8 _ v0
    have HC8 := Lib.hid (fun wx (hy : Below w8.heap.size w8 wx) => let h := HC.out wx (H6.out.trans ((H8.out.trans (hy.mono H8.out.size)).mono H6.out.size)); And.intro (h.1) (And.intro (h.2.1) (And.intro (h.2.2.1) (And.intro (h.2.2.2.1) (And.intro (h.2.2.2.2.1) (And.intro (h.2.2.2.2.2.1) (And.intro (h.2.2.2.2.2.2.1) (And.intro (h.2.2.2.2.2.2.2) (And.intro (((bcell hy).1 _ _ lv3).trans v0) (((bcell hy).1 _ _ lv3).trans v1))))))))))
    refine wp_region_rkg [105, 106, 107, 108, 109, 110, 111, 112, 113, 114, 115, 116, 117, 6] [rEq (.int .i64 0), rEq (.bool true), rEq (.bool true), rEq (.agg #[.int .i64 vn, .int .i64 vd]), rEq (.agg #[.int .i64 s, .int .i64 ww, .int .i64 t, .int .i64 en]), rEq (.pointer (some ⟨w.heap.size + 2, 0, none⟩)), rEq (.int .i64 E), rEq (.agg #[.slice A n c, .int .i64 S]), rEq (.pointer (some ⟨w.heap.size + 2, 1, none⟩)), rEq (.int .i64 x), rEq (.agg #[.int .i64 vn, .int .i64 vd]), rEq (.bool true), rEq (.bool true), rEq (.bool true)] (by kernel_rfl) (by kernel_rfl) (by decide) rfl ⟨?_, ?_, ?_, ?_, ?_, ?_, ?_, ?_, ?_, ?_, ?_, ?_, ?_, ?_, trivial⟩ ?_
    · intro ac wx hf hb hd -- 0
      refine .inl ⟨wanted_free rfl, ?_⟩
      have f8 : ac.tmps[8]?.getD undef = .int .i64 0 := by rw [← Array.getD_eq_getD_getElem?]; exact hf.same 8 (by decide)
      exact rstep_eq (by simp [execOp, Act.eval, f8, go_sem]) rfl
    · intro ac wx hf hb hd -- 1
      refine .inl ⟨wanted_free rfl, ?_⟩
      have d0 : ac.tmps[105]?.getD undef = .int .i64 0 := by rw [← Array.getD_eq_getD_getElem?]; exact hd 0 (by decide)
      exact rstep_eq (by simp [execOp, Act.eval, d0, go_sem]) rfl
    · intro ac wx hf hb hd -- 2
      refine .inl ⟨wanted_free rfl, ?_⟩
      have d1 : ac.tmps[106]?.getD undef = .bool true := by rw [← Array.getD_eq_getD_getElem?]; exact hd 1 (by decide)
      exact rstep_eq (by simp [execOp, Act.eval, d1, go_sem]) rfl
    · intro ac wx hf hb hd -- 3
      refine .inl ⟨wanted_by (j := 2) (d := 107) (b := true) rfl rfl (hd 2 (by decide)), ?_⟩
      have f7 : ac.tmps[7]?.getD undef = .pointer (some ⟨pw3, 0, none⟩) := by rw [← Array.getD_eq_getD_getElem?]; exact hf.same 7 (by decide)
      obtain ⟨c0, c1, c2, c3, c4, c5, c6, c7, fa, fb⟩ := HC8.out wx hb
      exact rstep_eq (by simp [execOp, Act.eval, f7, fa, fb, go_sem]) rfl
    · intro ac wx hf hb hd -- 4
      refine .inl ⟨wanted_by (j := 2) (d := 107) (b := true) rfl rfl (hd 2 (by decide)), ?_⟩
      have f3 : ac.tmps[3]?.getD undef = .pointer (some ⟨w.heap.size, 0, none⟩) := by rw [← Array.getD_eq_getD_getElem?]; exact hf.same 3 (by decide)
      obtain ⟨c0, c1, c2, c3, c4, c5, c6, c7, fa, fb⟩ := HC8.out wx hb
      exact rstep_eq (by simp [execOp, Act.eval, f3, c0, c1, c2, c3, go_sem]) rfl
    · intro ac wx hf hb hd -- 5
      refine .inl ⟨wanted_by (j := 2) (d := 107) (b := true) rfl rfl (hd 2 (by decide)), ?_⟩
      have f5 : ac.tmps[5]?.getD undef = .pointer (some ⟨w.heap.size + 2, 0, none⟩) := by rw [← Array.getD_eq_getD_getElem?]; exact hf.same 5 (by decide)
      exact rstep_eq (by simp [execOp, Act.eval, f5, go_sem]) rfl
    · intro ac wx hf hb hd -- 6
      refine .inl ⟨wanted_by (j := 2) (d := 107) (b := true) rfl rfl (hd 2 (by decide)), ?_⟩
      have d5 : ac.tmps[110]?.getD undef = .pointer (some ⟨w.heap.size + 2, 0, none⟩) := by rw [← Array.getD_eq_getD_getElem?]; exact hd 5 (by decide)
      obtain ⟨c0, c1, c2, c3, c4, c5, c6, c7, fa, fb⟩ := HC8.out wx hb
      exact rstep_eq (by simp [execOp, Act.eval, d5, c6, go_sem]) rfl
    · intro ac wx hf hb hd -- 7
      refine .inl ⟨wanted_by (j := 2) (d := 107) (b := true) rfl rfl (hd 2 (by decide)), ?_⟩
      have f4 : ac.tmps[4]?.getD undef = .pointer (some ⟨w.heap.size + 1, 0, none⟩) := by rw [← Array.getD_eq_getD_getElem?]; exact hf.same 4 (by decide)
      obtain ⟨c0, c1, c2, c3, c4, c5, c6, c7, fa, fb⟩ := HC8.out wx hb
      exact rstep_eq (by simp [execOp, Act.eval, f4, c4, c5, go_sem]) rfl
    · intro ac wx hf hb hd -- 8
      refine .inl ⟨wanted_by (j := 2) (d := 107) (b := true) rfl rfl (hd 2 (by decide)), ?_⟩
      have f5 : ac.tmps[5]?.getD undef = .pointer (some ⟨w.heap.size + 2, 0, none⟩) := by rw [← Array.getD_eq_getD_getElem?]; exact hf.same 5 (by decide)
      exact rstep_eq (by simp [execOp, Act.eval, f5, go_sem]) rfl
    · intro ac wx hf hb hd -- 9
      refine .inl ⟨wanted_by (j := 2) (d := 107) (b := true) rfl rfl (hd 2 (by decide)), ?_⟩
      have d8 : ac.tmps[113]?.getD undef = .pointer (some ⟨w.heap.size + 2, 1, none⟩) := by rw [← Array.getD_eq_getD_getElem?]; exact hd 8 (by decide)
      obtain ⟨c0, c1, c2, c3, c4, c5, c6, c7, fa, fb⟩ := HC8.out wx hb
      exact rstep_eq (by simp [execOp, Act.eval, d8, c7, go_sem]) rfl
    · intro ac wx hf hb hd -- 10
      refine .inl ⟨wanted_by (j := 2) (d := 107) (b := true) rfl rfl (hd 2 (by decide)), ?_⟩
      have d4 : ac.tmps[109]?.getD undef = .agg #[.int .i64 s, .int .i64 ww, .int .i64 t, .int .i64 en] := by rw [← Array.getD_eq_getD_getElem?]; exact hd 4 (by decide)
      have d6 : ac.tmps[111]?.getD undef = .int .i64 E := by rw [← Array.getD_eq_getD_getElem?]; exact hd 6 (by decide)
      have d7 : ac.tmps[112]?.getD undef = .agg #[.slice A n c, .int .i64 S] := by rw [← Array.getD_eq_getD_getElem?]; exact hd 7 (by decide)
      have d9 : ac.tmps[114]?.getD undef = .int .i64 x := by rw [← Array.getD_eq_getD_getElem?]; exact hd 9 (by decide)
      refine rstep_call (f := 43) (args := #[.agg #[.int .i64 s, .int .i64 ww, .int .i64 t, .int .i64 en], .int .i64 E, .agg #[.slice A n c, .int .i64 S], .int .i64 x]) (by simp [Act.eval, d4, d6, d7, d9, go_sem]) ?_ rfl
      exact HRS2.out wx (H8W.out.trans (hb.mono H8W.out.size))
    · intro ac wx hf hb hd -- 11
      refine .inl ⟨wanted_by (j := 2) (d := 107) (b := true) rfl rfl (hd 2 (by decide)), ?_⟩
      have d3 : ac.tmps[108]?.getD undef = .agg #[.int .i64 vn, .int .i64 vd] := by rw [← Array.getD_eq_getD_getElem?]; exact hd 3 (by decide)
      have d10 : ac.tmps[115]?.getD undef = .agg #[.int .i64 vn, .int .i64 vd] := by rw [← Array.getD_eq_getD_getElem?]; exact hd 10 (by decide)
      exact rstep_eq (by simp [execOp, Act.eval, d3, d10, go_sem]) rfl
    · intro ac wx hf hb hd -- 12
      refine .inl ⟨wanted_free rfl, ?_⟩
      have d2 : ac.tmps[107]?.getD undef = .bool true := by rw [← Array.getD_eq_getD_getElem?]; exact hd 2 (by decide)
      have d11 : ac.tmps[116]?.getD undef = .bool true := by rw [← Array.getD_eq_getD_getElem?]; exact hd 11 (by decide)
      exact rstep_eq (by simp [execOp, Act.eval, d2, d11, go_sem]) rfl
    · intro ac wx hf hb hd -- 13
      refine .inl ⟨wanted_free rfl, ?_⟩
      have d12 : ac.tmps[117]?.getD undef = .bool true := by rw [← Array.getD_eq_getD_getElem?]; exact hd 12 (by decide)
      exact rstep_eq (by simp [execOp, Act.eval, d12, go_sem]) rfl
    rintro ⟨⟨ll⟩, df⟩ wx hf hb hall
    have hdf : df = [] := hf.defers
    subst hdf
    have hsz : ll.length = 118 := hf.size
    obtain ⟨x0, ll0, rfl, hsz0⟩ := cons_of hsz
    obtain ⟨x1, ll1, rfl, hsz1⟩ := cons_of hsz0
    obtain ⟨x2, ll2, rfl, hsz2⟩ := cons_of hsz1
    obtain ⟨x3, ll3, rfl, hsz3⟩ := cons_of hsz2
    obtain ⟨x4, ll4, rfl, hsz4⟩ := cons_of hsz3
    obtain ⟨x5, ll5, rfl, hsz5⟩ := cons_of hsz4
    obtain ⟨x6, ll6, rfl, hsz6⟩ := cons_of hsz5
    obtain ⟨x7, ll7, rfl, hsz7⟩ := cons_of hsz6
    obtain ⟨x8, ll8, rfl, hsz8⟩ := cons_of hsz7
    obtain ⟨x9, ll9, rfl, hsz9⟩ := cons_of hsz8
    obtain ⟨x10, ll10, rfl, hsz10⟩ := cons_of hsz9
    obtain ⟨x11, ll11, rfl, hsz11⟩ := cons_of hsz10
    obtain ⟨x12, ll12, rfl, hsz12⟩ := cons_of hsz11
    obtain ⟨x13, ll13, rfl, hsz13⟩ := cons_of hsz12
    obtain ⟨x14, ll14, rfl, hsz14⟩ := cons_of hsz13
    obtain ⟨x15, ll15, rfl, hsz15⟩ := cons_of hsz14
    obtain ⟨x16, ll16, rfl, hsz16⟩ := cons_of hsz15
    obtain ⟨x17, ll17, rfl, hsz17⟩ := cons_of hsz16
    obtain ⟨x18, ll18, rfl, hsz18⟩ := cons_of hsz17
    obtain ⟨x19, ll19, rfl, hsz19⟩ := cons_of hsz18
    obtain ⟨x20, ll20, rfl, hsz20⟩ := cons_of hsz19
    obtain ⟨x21, ll21, rfl, hsz21⟩ := cons_of hsz20
    obtain ⟨x22, ll22, rfl, hsz22⟩ := cons_of hsz21
    obtain ⟨x23, ll23, rfl, hsz23⟩ := cons_of hsz22
    obtain ⟨x24, ll24, rfl, hsz24⟩ := cons_of hsz23
    obtain ⟨x25, ll25, rfl, hsz25⟩ := cons_of hsz24
    obtain ⟨x26, ll26, rfl, hsz26⟩ := cons_of hsz25
    obtain ⟨x27, ll27, rfl, hsz27⟩ := cons_of hsz26
    obtain ⟨x28, ll28, rfl, hsz28⟩ := cons_of hsz27
    obtain ⟨x29, ll29, rfl, hsz29⟩ := cons_of hsz28
    obtain ⟨x30, ll30, rfl, hsz30⟩ := cons_of hsz29
    obtain ⟨x31, ll31, rfl, hsz31⟩ := cons_of hsz30
    obtain ⟨x32, ll32, rfl, hsz32⟩ := cons_of hsz31
    obtain ⟨x33, ll33, rfl, hsz33⟩ := cons_of hsz32
    obtain ⟨x34, ll34, rfl, hsz34⟩ := cons_of hsz33
    obtain ⟨x35, ll35, rfl, hsz35⟩ := cons_of hsz34
    obtain ⟨x36, ll36, rfl, hsz36⟩ := cons_of hsz35
    obtain ⟨x37, ll37, rfl, hsz37⟩ := cons_of hsz36
    obtain ⟨x38, ll38, rfl, hsz38⟩ := cons_of hsz37
    obtain ⟨x39, ll39, rfl, hsz39⟩ := cons_of hsz38
    obtain ⟨x40, ll40, rfl, hsz40⟩ := cons_of hsz39
    obtain ⟨x41, ll41, rfl, hsz41⟩ := cons_of hsz40
    obtain ⟨x42, ll42, rfl, hsz42⟩ := cons_of hsz41
    obtain ⟨x43, ll43, rfl, hsz43⟩ := cons_of hsz42
    obtain ⟨x44, ll44, rfl, hsz44⟩ := cons_of hsz43
    obtain ⟨x45, ll45, rfl, hsz45⟩ := cons_of hsz44
    obtain ⟨x46, ll46, rfl, hsz46⟩ := cons_of hsz45
    obtain ⟨x47, ll47, rfl, hsz47⟩ := cons_of hsz46
    obtain ⟨x48, ll48, rfl, hsz48⟩ := cons_of hsz47
    obtain ⟨x49, ll49, rfl, hsz49⟩ := cons_of hsz48
    obtain ⟨x50, ll50, rfl, hsz50⟩ := cons_of hsz49
    obtain ⟨x51, ll51, rfl, hsz51⟩ := cons_of hsz50
    obtain ⟨x52, ll52, rfl, hsz52⟩ := cons_of hsz51
    obtain ⟨x53, ll53, rfl, hsz53⟩ := cons_of hsz52
    obtain ⟨x54, ll54, rfl, hsz54⟩ := cons_of hsz53
    obtain ⟨x55, ll55, rfl, hsz55⟩ := cons_of hsz54
    obtain ⟨x56, ll56, rfl, hsz56⟩ := cons_of hsz55
    obtain ⟨x57, ll57, rfl, hsz57⟩ := cons_of hsz56
    obtain ⟨x58, ll58, rfl, hsz58⟩ := cons_of hsz57
    obtain ⟨x59, ll59, rfl, hsz59⟩ := cons_of hsz58
    obtain ⟨x60, ll60, rfl, hsz60⟩ := cons_of hsz59
    obtain ⟨x61, ll61, rfl, hsz61⟩ := cons_of hsz60
    obtain ⟨x62, ll62, rfl, hsz62⟩ := cons_of hsz61
    obtain ⟨x63, ll63, rfl, hsz63⟩ := cons_of hsz62
    obtain ⟨x64, ll64, rfl, hsz64⟩ := cons_of hsz63
    obtain ⟨x65, ll65, rfl, hsz65⟩ := cons_of hsz64
    obtain ⟨x66, ll66, rfl, hsz66⟩ := cons_of hsz65
    obtain ⟨x67, ll67, rfl, hsz67⟩ := cons_of hsz66
    obtain ⟨x68, ll68, rfl, hsz68⟩ := cons_of hsz67
    obtain ⟨x69, ll69, rfl, hsz69⟩ := cons_of hsz68
    obtain ⟨x70, ll70, rfl, hsz70⟩ := cons_of hsz69
    obtain ⟨x71, ll71, rfl, hsz71⟩ := cons_of hsz70
    obtain ⟨x72, ll72, rfl, hsz72⟩ := cons_of hsz71
    obtain ⟨x73, ll73, rfl, hsz73⟩ := cons_of hsz72
    obtain ⟨x74, ll74, rfl, hsz74⟩ := cons_of hsz73
    obtain ⟨x75, ll75, rfl, hsz75⟩ := cons_of hsz74
    obtain ⟨x76, ll76, rfl, hsz76⟩ := cons_of hsz75
    obtain ⟨x77, ll77, rfl, hsz77⟩ := cons_of hsz76
    obtain ⟨x78, ll78, rfl, hsz78⟩ := cons_of hsz77
    obtain ⟨x79, ll79, rfl, hsz79⟩ := cons_of hsz78
    obtain ⟨x80, ll80, rfl, hsz80⟩ := cons_of hsz79
    obtain ⟨x81, ll81, rfl, hsz81⟩ := cons_of hsz80
    obtain ⟨x82, ll82, rfl, hsz82⟩ := cons_of hsz81
    obtain ⟨x83, ll83, rfl, hsz83⟩ := cons_of hsz82
    obtain ⟨x84, ll84, rfl, hsz84⟩ := cons_of hsz83
    obtain ⟨x85, ll85, rfl, hsz85⟩ := cons_of hsz84
    obtain ⟨x86, ll86, rfl, hsz86⟩ := cons_of hsz85
    obtain ⟨x87, ll87, rfl, hsz87⟩ := cons_of hsz86
    obtain ⟨x88, ll88, rfl, hsz88⟩ := cons_of hsz87
    obtain ⟨x89, ll89, rfl, hsz89⟩ := cons_of hsz88
    obtain ⟨x90, ll90, rfl, hsz90⟩ := cons_of hsz89
    obtain ⟨x91, ll91, rfl, hsz91⟩ := cons_of hsz90
    obtain ⟨x92, ll92, rfl, hsz92⟩ := cons_of hsz91
    obtain ⟨x93, ll93, rfl, hsz93⟩ := cons_of hsz92
    obtain ⟨x94, ll94, rfl, hsz94⟩ := cons_of hsz93
    obtain ⟨x95, ll95, rfl, hsz95⟩ := cons_of hsz94
    obtain ⟨x96, ll96, rfl, hsz96⟩ := cons_of hsz95
    obtain ⟨x97, ll97, rfl, hsz97⟩ := cons_of hsz96
    obtain ⟨x98, ll98, rfl, hsz98⟩ := cons_of hsz97
    obtain ⟨x99, ll99, rfl, hsz99⟩ := cons_of hsz98
    obtain ⟨x100, ll100, rfl, hsz100⟩ := cons_of hsz99
    obtain ⟨x101, ll101, rfl, hsz101⟩ := cons_of hsz100
    obtain ⟨x102, ll102, rfl, hsz102⟩ := cons_of hsz101
    obtain ⟨x103, ll103, rfl, hsz103⟩ := cons_of hsz102
    obtain ⟨x104, ll104, rfl, hsz104⟩ := cons_of hsz103
    obtain ⟨x105, ll105, rfl, hsz105⟩ := cons_of hsz104
    obtain ⟨x106, ll106, rfl, hsz106⟩ := cons_of hsz105
    obtain ⟨x107, ll107, rfl, hsz107⟩ := cons_of hsz106
    obtain ⟨x108, ll108, rfl, hsz108⟩ := cons_of hsz107
    obtain ⟨x109, ll109, rfl, hsz109⟩ := cons_of hsz108
    obtain ⟨x110, ll110, rfl, hsz110⟩ := cons_of hsz109
    obtain ⟨x111, ll111, rfl, hsz111⟩ := cons_of hsz110
    obtain ⟨x112, ll112, rfl, hsz112⟩ := cons_of hsz111
    obtain ⟨x113, ll113, rfl, hsz113⟩ := cons_of hsz112
    obtain ⟨x114, ll114, rfl, hsz114⟩ := cons_of hsz113
    obtain ⟨x115, ll115, rfl, hsz115⟩ := cons_of hsz114
    obtain ⟨x116, ll116, rfl, hsz116⟩ := cons_of hsz115
    obtain ⟨x117, ll117, rfl, hsz117⟩ := cons_of hsz116
    obtain rfl := List.eq_nil_of_length_eq_zero hsz117
    obtain rfl : x3 = .pointer (some ⟨w.heap.size, 0, none⟩) := hf.same 3 (by decide)
    obtain rfl : x4 = .pointer (some ⟨w.heap.size + 1, 0, none⟩) := hf.same 4 (by decide)
    obtain rfl : x5 = .pointer (some ⟨w.heap.size + 2, 0, none⟩) := hf.same 5 (by decide)
    obtain rfl : x6 = .bool true := hall 13 6 rfl
    obtain rfl : x7 = .pointer (some ⟨pw3, 0, none⟩) := hf.same 7 (by decide)
    obtain rfl : x8 = .int .i64 0 := hf.same 8 (by decide)
    obtain rfl : x105 = .int .i64 0 := hall 0 105 rfl
    obtain rfl : x106 = .bool true := hall 1 106 rfl
    obtain rfl : x107 = .bool true := hall 2 107 rfl
    obtain rfl : x108 = .agg #[.int .i64 vn, .int .i64 vd] := hall 3 108 rfl
    obtain rfl : x109 = .agg #[.int .i64 s, .int .i64 ww, .int .i64 t, .int .i64 en] := hall 4 109 rfl
    obtain rfl : x110 = .pointer (some ⟨w.heap.size + 2, 0, none⟩) := hall 5 110 rfl
    obtain rfl : x111 = .int .i64 E := hall 6 111 rfl
    obtain rfl : x112 = .agg #[.slice A n c, .int .i64 S] := hall 7 112 rfl
    obtain rfl : x113 = .pointer (some ⟨w.heap.size + 2, 1, none⟩) := hall 8 113 rfl
    obtain rfl : x114 = .int .i64 x := hall 9 114 rfl
    obtain rfl : x115 = .agg #[.int .i64 vn, .int .i64 vd] := hall 10 115 rfl
    obtain rfl : x116 = .bool true := hall 11 116 rfl
    obtain rfl : x117 = .bool true := hall 12 117 rfl
    clear hall hf
    go_wp2
    go_ret
    exact ⟨rfl, H8W.out.trans (hb.mono H8W.out.size)⟩
end Go.Proofs.Ytageiimcmnebmaa
