/- The law of the greatest moment. -/
import Derived.Test.YtageiimcmnebmaaCH
import Derived.Test.YtageiimcmnebmaaRI
import Derived.Test.YtageiimcmnebmaaDD
import Derived.Test.YtageiimcmnebmaaDG
namespace Go.Proofs.Ytageiimcmnebmaa
open Go.RowKit

set_option maxHeartbeats 16000000 in
set_option maxRecDepth 20000 in
theorem great_law {s ww t en : Int} {A : Option Addr} {n c : Nat} {S : Int} {l : List Pt} (hn : n ≤ 12) {mn md sn sd zd eh dz p : Int}
    (GM : ∀ A c wx, PtRow wx A n l → Calls Try.prog 35 #[.agg #[.int .i64 s, .int .i64 ww, .int .i64 t, .int .i64 en], buV A n c S] wx fun e w' => e = .returned (.tuple #[.int .i64 p, .agg #[.int .i64 mn, .int .i64 md], .int .i64 eh]) ∧ Below wx.heap.size wx w')
    (SR : ∀ A c wx, PtRow wx A n l → Calls Try.prog 36 #[.agg #[.int .i64 s, .int .i64 ww, .int .i64 t, .int .i64 en], buV A n c S] wx fun e w' => e = .returned (.tuple #[.agg #[.int .i64 sn, .int .i64 sd], .int .i64 eh]) ∧ Below wx.heap.size wx w')
    (w : World) (CB : ∀ wx, Below w.heap.size w wx → Calls Try.prog 23 #[.agg #[.int .i64 s, .int .i64 ww, .int .i64 t, .int .i64 en], buV A n c S] wx fun e w' => e = .returned (.int .i64 dz) ∧ Below wx.heap.size wx w')
    (MO : dz = 0 → ∀ A c wx, PtRow wx A n l → Calls Try.prog 31 #[.agg #[.int .i64 s, .int .i64 ww, .int .i64 t, .int .i64 en], buV A n c S, .int .i64 s] wx fun e w' => e = .returned (.tuple #[.agg #[.int .i64 0, .int .i64 zd], .int .i64 0]) ∧ Below wx.heap.size wx w')
    (RG : dz = 0 → ∀ wx, Below w.heap.size w wx → Calls Try.prog 37 #[.agg #[.int .i64 s, .int .i64 ww, .int .i64 t, .int .i64 en], buV A n c S] wx fun e w' => e = .returned (.tuple #[.int .i64 p, .agg #[.int .i64 mn, .int .i64 md]]) ∧ Below wx.heap.size wx w')
    (RS : dz = 0 → ∀ wx, Below w.heap.size w wx → Calls Try.prog 38 #[.agg #[.int .i64 s, .int .i64 ww, .int .i64 t, .int .i64 en], buV A n c S] wx fun e w' => e = .returned (.agg #[.int .i64 sn, .int .i64 sd]) ∧ Below wx.heap.size wx w')
    (H : (dz ≠ 0 ∧ eh = dz ∧ p = 0 ∧ mn = 0 ∧ md = 0 ∧ sn = 0 ∧ sd = 0) ∨ (dz = 0 ∧ eh = 0))
    (h : PtRow w A n l) :
    Calls Try.prog 5 #[.agg #[.int .i64 s, .int .i64 ww, .int .i64 t, .int .i64 en], buV A n c S] w fun e w' => e = .returned (.bool true) ∧ Below w.heap.size w w' := by
  have HR := Lib.hid h
  have HGM := Lib.hid GM
  have HSR := Lib.hid SR
  have HCB := Lib.hid CB
  have HMO := Lib.hid MO
  have HRG := Lib.hid RG
  have HRS := Lib.hid RS
  have HH := Lib.hid H
  have AW := fun wx => Lib.hid (awake_any wx)
  have FE := Lib.hid (fun wx => few_any (A := A) (n := n) (c := c) (S := S) wx)
  have hd : decide (n ≤ 12) = true := decide_eq_true hn
  rw [hd] at FE
  clear h GM SR CB MO RG RS H hd
  unfold buV at *
  go_enter Try.func5, Try.ntmps5
  go_upto_region 1 with fail
  obtain ⟨w0, hw0⟩ : ∃ w0, ((w.alloc (.cells #[.int .i64 s, .int .i64 ww, .int .i64 t, .int .i64 en] 23)).alloc (.cells #[.slice A n c, .int .i64 S] 26)) = w0 := ⟨_, rfl⟩
  have HB0 : Hid (Below w.heap.size w w0) := Lib.hid (by rw [← hw0]; exact (((Below.refl _ _).alloc (Nat.le_refl _) _).alloc (by simp; try omega) _))
  have HC := Lib.hid (fun wx (hb : Below w0.heap.size w0 wx) => (show wx.cell? ⟨w.heap.size, 0, none⟩ = some (.int .i64 s) ∧ wx.cell? ⟨w.heap.size, 1, none⟩ = some (.int .i64 ww) ∧ wx.cell? ⟨w.heap.size, 2, none⟩ = some (.int .i64 t) ∧ wx.cell? ⟨w.heap.size, 3, none⟩ = some (.int .i64 en) ∧ wx.cell? ⟨w.heap.size + 1, 0, none⟩ = some (.slice A n c) ∧ wx.cell? ⟨w.heap.size + 1, 1, none⟩ = some (.int .i64 S) from by
    subst hw0
    obtain ⟨k, kf⟩ := bcell hb
    exact ⟨(k _ _ (by simp; try omega)).trans (by simp [go_sem]), (k _ _ (by simp; try omega)).trans (by simp [go_sem]), (k _ _ (by simp; try omega)).trans (by simp [go_sem]), (k _ _ (by simp; try omega)).trans (by simp [go_sem]), (k _ _ (by simp; try omega)).trans (by simp [go_sem]), (k _ _ (by simp; try omega)).trans (by simp [go_sem])⟩))
  rw [hw0]
  clear hw0
  have HZ0 := Lib.hid (Below.refl w0.heap.size w0)
  obtain ⟨c0, c1, c2, c3, c4, c5⟩ := HC.out w0 HZ0.out
  go_upto_region 3 with (go_at_call 19; (refine Calls.mono (AW _).out ?_); rintro e w1 ⟨rfl, hb1⟩; have H1 := Lib.hid hb1; clear hb1)
  obtain ⟨d0, d1, d2, d3, d4, d5⟩ := HC.out w1 H1.out
  go_upto_region 5 with (go_at_call 20; (refine Calls.mono (FE.out _) ?_); rintro e w2 ⟨rfl, hb2⟩; have H2 := Lib.hid (H1.out.trans (hb2.mono H1.out.size)); clear hb2)
  have HC2 := Lib.hid (fun wy (hy : Below w2.heap.size w2 wy) => HC.out wy (H2.out.trans (hy.mono H2.out.size)))
  have HW2 := Lib.hid (HB0.out.trans (H2.out.mono HB0.out.size))
  refine wp_region_one [21, 22, 23, 24, 20, 25, 26, 27, 6, 5, 104, 7] 10 [rEq (.agg #[.int .i64 s, .int .i64 ww, .int .i64 t, .int .i64 en]), rEq (.agg #[.slice A n c, .int .i64 S]), (rBur 0 l n S), rEq (.tuple #[.int .i64 p, .agg #[.int .i64 mn, .int .i64 md], .int .i64 eh]), rEq (.tuple #[.int .i64 p, .agg #[.int .i64 mn, .int .i64 md], .int .i64 eh]), rEq (.int .i64 p), rEq (.agg #[.int .i64 mn, .int .i64 md]), rEq (.int .i64 eh), (rPtr0 w2.heap.size), rEq (.int .i64 p), (rAny), rEq (.int .i64 eh)] [rEq (.agg #[.int .i64 s, .int .i64 ww, .int .i64 t, .int .i64 en]), rEq (.agg #[.slice A n c, .int .i64 S]), (rAny), rEq (.tuple #[.int .i64 p, .agg #[.int .i64 mn, .int .i64 md], .int .i64 eh]), rEq (.tuple #[.int .i64 p, .agg #[.int .i64 mn, .int .i64 md], .int .i64 eh]), rEq (.int .i64 p), rEq (.agg #[.int .i64 mn, .int .i64 md]), rEq (.int .i64 eh), (rPtr1 w2.heap.size mn md), rEq (.int .i64 p), (rAny), rEq (.int .i64 eh)] [10, 11] [0, 1, 2, 3, 4, 5, 6, 8, 9, 10] (by kernel_rfl) (by kernel_rfl) (by decide) rfl ?_ (by decide) ?_ ?_ rfl ?_ ?_ ?_ ?_
  · intro i h
    have hi := stores_lt h
    revert h
    revert hi
    revert i
    decide +kernel
  · intro i o ho he
    have he' : i = 10 ∨ i = 11 := by simpa using he
    rcases he' with rfl | rfl
    · exact .inl rfl
    · cases ho; exact .inr (by decide)
  · intro i os ho hi he
    cases ho
    revert he
    revert hi
    revert i
    decide +kernel
  · refine ⟨?_, ?_, ?_, ?_, ?_, ?_, ?_, ?_, ?_, ?_, ?_, ?_, trivial⟩
    · intro _ ac wx hf hb hd -- 0
      have f2 : ac.tmps[2]?.getD undef = .pointer (some ⟨w.heap.size, 0, none⟩) := by rw [← Array.getD_eq_getD_getElem?]; exact hf.same 2 (by decide)
      obtain ⟨c0, c1, c2, c3, c4, c5⟩ := HC2.out wx hb
      exact rstep_eq (by simp [execOp, Act.eval, f2, c0, c1, c2, c3, go_sem]) rfl
    · intro _ ac wx hf hb hd -- 1
      have f3 : ac.tmps[3]?.getD undef = .pointer (some ⟨w.heap.size + 1, 0, none⟩) := by rw [← Array.getD_eq_getD_getElem?]; exact hf.same 3 (by decide)
      obtain ⟨c0, c1, c2, c3, c4, c5⟩ := HC2.out wx hb
      exact rstep_eq (by simp [execOp, Act.eval, f3, c4, c5, go_sem]) rfl
    · intro _ ac wx hf hb hd -- 2
      have d1 : ac.tmps[22]?.getD undef = .agg #[.slice A n c, .int .i64 S] := by rw [← Array.getD_eq_getD_getElem?]; exact hd 1 (by decide)
      exact rstep_copied (A := A) (c := c) (by omega) (HR.out.below (HW2.out.trans (hb.mono HW2.out.size))) (by simp [Act.eval, d1, buV, go_sem]) rfl
    · intro _ ac wx hf hb hd -- 3
      have d0 : ac.tmps[21]?.getD undef = .agg #[.int .i64 s, .int .i64 ww, .int .i64 t, .int .i64 en] := by rw [← Array.getD_eq_getD_getElem?]; exact hd 0 (by decide)
      obtain ⟨A2, cc2, d2, r2, -⟩ : ∃ A c, ac.tmps[23]?.getD undef = buV A n c S ∧ PtRow wx A n l ∧ _ := by rw [← Array.getD_eq_getD_getElem?]; exact hd 2 (by decide)
      refine rstep_call (f := 35) (args := #[.agg #[.int .i64 s, .int .i64 ww, .int .i64 t, .int .i64 en], buV A2 n cc2 S]) (by simp [Act.eval, d0, d2, go_sem]) ?_ rfl
      exact HGM.out _ _ _ r2
    · intro _ ac wx hf hb hd -- 4
      have d3 : ac.tmps[24]?.getD undef = .tuple #[.int .i64 p, .agg #[.int .i64 mn, .int .i64 md], .int .i64 eh] := by rw [← Array.getD_eq_getD_getElem?]; exact hd 3 (by decide)
      exact rstep_eq (by simp [execOp, Act.eval, d3, go_sem]) rfl
    · intro _ ac wx hf hb hd -- 5
      have d4 : ac.tmps[20]?.getD undef = .tuple #[.int .i64 p, .agg #[.int .i64 mn, .int .i64 md], .int .i64 eh] := by rw [← Array.getD_eq_getD_getElem?]; exact hd 4 (by decide)
      exact rstep_eq (by simp [execOp, Act.eval, d4, go_sem]) rfl
    · intro _ ac wx hf hb hd -- 6
      have d4 : ac.tmps[20]?.getD undef = .tuple #[.int .i64 p, .agg #[.int .i64 mn, .int .i64 md], .int .i64 eh] := by rw [← Array.getD_eq_getD_getElem?]; exact hd 4 (by decide)
      exact rstep_eq (by simp [execOp, Act.eval, d4, go_sem]) rfl
    · intro _ ac wx hf hb hd -- 7
      have d4 : ac.tmps[20]?.getD undef = .tuple #[.int .i64 p, .agg #[.int .i64 mn, .int .i64 md], .int .i64 eh] := by rw [← Array.getD_eq_getD_getElem?]; exact hd 4 (by decide)
      exact rstep_eq (by simp [execOp, Act.eval, d4, go_sem]) rfl
    · intro _ ac wx hf hb hd -- 8
      exact rstep_alloc hb.size (by simp [execOp, go_sem]) rfl
    · intro _ ac wx hf hb hd -- 9
      have d5 : ac.tmps[25]?.getD undef = .int .i64 p := by rw [← Array.getD_eq_getD_getElem?]; exact hd 5 (by decide)
      exact rstep_eq (by simp [execOp, Act.eval, d5, go_sem]) rfl
    · intro h; cases h
    · intro h; cases h
  · refine ⟨?_, ?_, ?_, ?_, ?_, ?_, ?_, ?_, ?_, ?_, ?_, ?_, trivial⟩
    · intro h; cases h
    · intro h; cases h
    · intro h; cases h
    · intro h; cases h
    · intro h; cases h
    · intro h; cases h
    · intro h; cases h
    · intro _ ac wx hf hb hd -- 7
      have d4 : ac.tmps[20]?.getD undef = .tuple #[.int .i64 p, .agg #[.int .i64 mn, .int .i64 md], .int .i64 eh] := by rw [← Array.getD_eq_getD_getElem?]; exact hd 4 (by decide)
      exact rstep_eq (by simp [execOp, Act.eval, d4, go_sem]) rfl
    · intro h; cases h
    · intro h; cases h
    · intro h; cases h
    · intro _ ac wx hf hb hd -- 11
      have d7 : ac.tmps[27]?.getD undef = .int .i64 eh := by rw [← Array.getD_eq_getD_getElem?]; exact hd 7 (by decide)
      exact rstep_eq (by simp [execOp, Act.eval, d7, go_sem]) rfl
  · intro o ac wx ho hf hb hd
    have ho2 : _ = o := Option.some.inj ho
    subst ho2
    clear ho
    obtain ⟨pb, dp, pb0, pb1, p0, p1, p2, p3⟩ : ∃ blk, ac.tmps[6]?.getD undef = .pointer (some ⟨blk, 0, none⟩) ∧ w2.heap.size ≤ blk ∧ blk < wx.heap.size ∧ wx.cell? ⟨blk, 0, none⟩ = some (.int .i64 0) ∧ wx.cell? ⟨blk, 1, none⟩ = some (.int .i64 0) ∧ wx.frozen? ⟨blk, 0, none⟩ = false ∧ wx.frozen? ⟨blk, 1, none⟩ = false := by rw [← Array.getD_eq_getD_getElem?]; exact hd 8 (by decide)
    have dv : ac.tmps[26]?.getD undef = .agg #[.int .i64 mn, .int .i64 md] := by rw [← Array.getD_eq_getD_getElem?]; exact hd 6 (by decide)
    simp [Oper.wp, Oper.upon, execOp, Act.eval, go_sem, dp, dv, p0, p1, p2, p3]
    refine ⟨(hb.setCell (p := ⟨pb, 0, none⟩) pb0 _).setCell (p := ⟨pb, 1, none⟩) pb0 _, fun j d hj hL => ?_⟩
    match j, hj, hL with
    | 0, _, hL => exact hL
    | 1, _, hL => exact hL
    | 2, _, _ => exact trivial
    | 3, _, hL => exact hL
    | 4, _, hL => exact hL
    | 5, _, hL => exact hL
    | 6, _, hL => exact hL
    | 7, _, hL => exact hL
    | 8, hj, _ =>
      cases hj
      exact ⟨pb, dp, pb0, by simpa using pb1, (World.cell?_setCell_other _ _ _ _ (by simp)).trans (World.cell?_setCell_same _ _ _ p0), World.cell?_setCell_same _ _ _ ((World.cell?_setCell_other _ _ _ _ (by simp)).trans p1)⟩
    | 9, _, hL => exact hL
    | 10, _, _ => exact trivial
    | 11, _, hL => exact hL
    | _ + 12, hj, _ => simp at hj
  rintro ⟨⟨ll⟩, df⟩ w3 hf hbw3 hall
  have hdf : df = [] := hf.defers
  subst hdf
  have hsz : ll.length = 105 := hf.size
  obtain ⟨x0, ll0, rfl, hsz0⟩ := cons_of hsz
  obtain ⟨x1, ll1, rfl, hsz1⟩ := cons_of hsz0
  obtain ⟨x2, ll2, rfl, hsz2⟩ := cons_of hsz1
  obtain ⟨x3, ll3, rfl, hsz3⟩ := cons_of hsz2
  obtain ⟨x4, ll4, rfl, hsz4⟩ := cons_of hsz3
  obtain ⟨x5, ll5, rfl, hsz5⟩ := cons_of hsz4
  obtain ⟨x6, ll6, rfl, hsz6⟩ := cons_of hsz5
  obtain ⟨x7, ll7, rfl, hsz7⟩ := cons_of hsz6
  obtain ⟨x8, ll8, rfl, hsz8⟩ := cons_of hsz7
  obtain ⟨x9, ll9, rfl, hsz9⟩ := cons_of hsz8
  obtain ⟨x10, ll10, rfl, hsz10⟩ := cons_of hsz9
  obtain ⟨x11, ll11, rfl, hsz11⟩ := cons_of hsz10
  obtain ⟨x12, ll12, rfl, hsz12⟩ := cons_of hsz11
  obtain ⟨x13, ll13, rfl, hsz13⟩ := cons_of hsz12
  obtain ⟨x14, ll14, rfl, hsz14⟩ := cons_of hsz13
  obtain ⟨x15, ll15, rfl, hsz15⟩ := cons_of hsz14
  obtain ⟨x16, ll16, rfl, hsz16⟩ := cons_of hsz15
  obtain ⟨x17, ll17, rfl, hsz17⟩ := cons_of hsz16
  obtain ⟨x18, ll18, rfl, hsz18⟩ := cons_of hsz17
  obtain ⟨x19, ll19, rfl, hsz19⟩ := cons_of hsz18
  obtain ⟨x20, ll20, rfl, hsz20⟩ := cons_of hsz19
  obtain ⟨x21, ll21, rfl, hsz21⟩ := cons_of hsz20
  obtain ⟨x22, ll22, rfl, hsz22⟩ := cons_of hsz21
  obtain ⟨x23, ll23, rfl, hsz23⟩ := cons_of hsz22
  obtain ⟨x24, ll24, rfl, hsz24⟩ := cons_of hsz23
  obtain ⟨x25, ll25, rfl, hsz25⟩ := cons_of hsz24
  obtain ⟨x26, ll26, rfl, hsz26⟩ := cons_of hsz25
  obtain ⟨x27, ll27, rfl, hsz27⟩ := cons_of hsz26
  obtain ⟨x28, ll28, rfl, hsz28⟩ := cons_of hsz27
  obtain ⟨x29, ll29, rfl, hsz29⟩ := cons_of hsz28
  obtain ⟨x30, ll30, rfl, hsz30⟩ := cons_of hsz29
  obtain ⟨x31, ll31, rfl, hsz31⟩ := cons_of hsz30
  obtain ⟨x32, ll32, rfl, hsz32⟩ := cons_of hsz31
  obtain ⟨x33, ll33, rfl, hsz33⟩ := cons_of hsz32
  obtain ⟨x34, ll34, rfl, hsz34⟩ := cons_of hsz33
  obtain ⟨x35, ll35, rfl, hsz35⟩ := cons_of hsz34
  obtain ⟨x36, ll36, rfl, hsz36⟩ := cons_of hsz35
  obtain ⟨x37, ll37, rfl, hsz37⟩ := cons_of hsz36
  obtain ⟨x38, ll38, rfl, hsz38⟩ := cons_of hsz37
  obtain ⟨x39, ll39, rfl, hsz39⟩ := cons_of hsz38
  obtain ⟨x40, ll40, rfl, hsz40⟩ := cons_of hsz39
  obtain ⟨x41, ll41, rfl, hsz41⟩ := cons_of hsz40
  obtain ⟨x42, ll42, rfl, hsz42⟩ := cons_of hsz41
  obtain ⟨x43, ll43, rfl, hsz43⟩ := cons_of hsz42
  obtain ⟨x44, ll44, rfl, hsz44⟩ := cons_of hsz43
  obtain ⟨x45, ll45, rfl, hsz45⟩ := cons_of hsz44
  obtain ⟨x46, ll46, rfl, hsz46⟩ := cons_of hsz45
  obtain ⟨x47, ll47, rfl, hsz47⟩ := cons_of hsz46
  obtain ⟨x48, ll48, rfl, hsz48⟩ := cons_of hsz47
  obtain ⟨x49, ll49, rfl, hsz49⟩ := cons_of hsz48
  obtain ⟨x50, ll50, rfl, hsz50⟩ := cons_of hsz49
  obtain ⟨x51, ll51, rfl, hsz51⟩ := cons_of hsz50
  obtain ⟨x52, ll52, rfl, hsz52⟩ := cons_of hsz51
  obtain ⟨x53, ll53, rfl, hsz53⟩ := cons_of hsz52
  obtain ⟨x54, ll54, rfl, hsz54⟩ := cons_of hsz53
  obtain ⟨x55, ll55, rfl, hsz55⟩ := cons_of hsz54
  obtain ⟨x56, ll56, rfl, hsz56⟩ := cons_of hsz55
  obtain ⟨x57, ll57, rfl, hsz57⟩ := cons_of hsz56
  obtain ⟨x58, ll58, rfl, hsz58⟩ := cons_of hsz57
  obtain ⟨x59, ll59, rfl, hsz59⟩ := cons_of hsz58
  obtain ⟨x60, ll60, rfl, hsz60⟩ := cons_of hsz59
  obtain ⟨x61, ll61, rfl, hsz61⟩ := cons_of hsz60
  obtain ⟨x62, ll62, rfl, hsz62⟩ := cons_of hsz61
  obtain ⟨x63, ll63, rfl, hsz63⟩ := cons_of hsz62
  obtain ⟨x64, ll64, rfl, hsz64⟩ := cons_of hsz63
  obtain ⟨x65, ll65, rfl, hsz65⟩ := cons_of hsz64
  obtain ⟨x66, ll66, rfl, hsz66⟩ := cons_of hsz65
  obtain ⟨x67, ll67, rfl, hsz67⟩ := cons_of hsz66
  obtain ⟨x68, ll68, rfl, hsz68⟩ := cons_of hsz67
  obtain ⟨x69, ll69, rfl, hsz69⟩ := cons_of hsz68
  obtain ⟨x70, ll70, rfl, hsz70⟩ := cons_of hsz69
  obtain ⟨x71, ll71, rfl, hsz71⟩ := cons_of hsz70
  obtain ⟨x72, ll72, rfl, hsz72⟩ := cons_of hsz71
  obtain ⟨x73, ll73, rfl, hsz73⟩ := cons_of hsz72
  obtain ⟨x74, ll74, rfl, hsz74⟩ := cons_of hsz73
  obtain ⟨x75, ll75, rfl, hsz75⟩ := cons_of hsz74
  obtain ⟨x76, ll76, rfl, hsz76⟩ := cons_of hsz75
  obtain ⟨x77, ll77, rfl, hsz77⟩ := cons_of hsz76
  obtain ⟨x78, ll78, rfl, hsz78⟩ := cons_of hsz77
  obtain ⟨x79, ll79, rfl, hsz79⟩ := cons_of hsz78
  obtain ⟨x80, ll80, rfl, hsz80⟩ := cons_of hsz79
  obtain ⟨x81, ll81, rfl, hsz81⟩ := cons_of hsz80
  obtain ⟨x82, ll82, rfl, hsz82⟩ := cons_of hsz81
  obtain ⟨x83, ll83, rfl, hsz83⟩ := cons_of hsz82
  obtain ⟨x84, ll84, rfl, hsz84⟩ := cons_of hsz83
  obtain ⟨x85, ll85, rfl, hsz85⟩ := cons_of hsz84
  obtain ⟨x86, ll86, rfl, hsz86⟩ := cons_of hsz85
  obtain ⟨x87, ll87, rfl, hsz87⟩ := cons_of hsz86
  obtain ⟨x88, ll88, rfl, hsz88⟩ := cons_of hsz87
  obtain ⟨x89, ll89, rfl, hsz89⟩ := cons_of hsz88
  obtain ⟨x90, ll90, rfl, hsz90⟩ := cons_of hsz89
  obtain ⟨x91, ll91, rfl, hsz91⟩ := cons_of hsz90
  obtain ⟨x92, ll92, rfl, hsz92⟩ := cons_of hsz91
  obtain ⟨x93, ll93, rfl, hsz93⟩ := cons_of hsz92
  obtain ⟨x94, ll94, rfl, hsz94⟩ := cons_of hsz93
  obtain ⟨x95, ll95, rfl, hsz95⟩ := cons_of hsz94
  obtain ⟨x96, ll96, rfl, hsz96⟩ := cons_of hsz95
  obtain ⟨x97, ll97, rfl, hsz97⟩ := cons_of hsz96
  obtain ⟨x98, ll98, rfl, hsz98⟩ := cons_of hsz97
  obtain ⟨x99, ll99, rfl, hsz99⟩ := cons_of hsz98
  obtain ⟨x100, ll100, rfl, hsz100⟩ := cons_of hsz99
  obtain ⟨x101, ll101, rfl, hsz101⟩ := cons_of hsz100
  obtain ⟨x102, ll102, rfl, hsz102⟩ := cons_of hsz101
  obtain ⟨x103, ll103, rfl, hsz103⟩ := cons_of hsz102
  obtain ⟨x104, ll104, rfl, hsz104⟩ := cons_of hsz103
  obtain rfl := List.eq_nil_of_length_eq_zero hsz104
  obtain rfl : x2 = .pointer (some ⟨w.heap.size, 0, none⟩) := hf.same 2 (by decide)
  obtain rfl : x3 = .pointer (some ⟨w.heap.size + 1, 0, none⟩) := hf.same 3 (by decide)
  obtain rfl : x5 = .int .i64 p := hall 9 5 rfl
  obtain rfl : x7 = .int .i64 eh := hall 11 7 rfl
  obtain rfl : x20 = .tuple #[.int .i64 p, .agg #[.int .i64 mn, .int .i64 md], .int .i64 eh] := hall 4 20 rfl
  obtain rfl : x21 = .agg #[.int .i64 s, .int .i64 ww, .int .i64 t, .int .i64 en] := hall 0 21 rfl
  obtain rfl : x22 = .agg #[.slice A n c, .int .i64 S] := hall 1 22 rfl
  obtain rfl : x24 = .tuple #[.int .i64 p, .agg #[.int .i64 mn, .int .i64 md], .int .i64 eh] := hall 3 24 rfl
  obtain rfl : x25 = .int .i64 p := hall 5 25 rfl
  obtain rfl : x26 = .agg #[.int .i64 mn, .int .i64 md] := hall 6 26 rfl
  obtain rfl : x27 = .int .i64 eh := hall 7 27 rfl
  obtain ⟨pw3, hxw3, plw3, psw3, paw3, pcw3⟩ : ∃ blk, x6 = .pointer (some ⟨blk, 0, none⟩) ∧ w2.heap.size ≤ blk ∧ blk < w3.heap.size ∧ w3.cell? ⟨blk, 0, none⟩ = some (.int .i64 mn) ∧ w3.cell? ⟨blk, 1, none⟩ = some (.int .i64 md) := hall 8 6 rfl
  subst hxw3
  clear hall hf
  have H3 := Lib.hid (H2.out.trans (hbw3.mono H2.out.size))
  have HC3 := Lib.hid (fun wy (hy : Below w3.heap.size w3 wy) => HC.out wy (H3.out.trans (hy.mono H3.out.size)))
  have HW3 := Lib.hid (HB0.out.trans (H3.out.mono HB0.out.size))
  clear hbw3
  go_upto_region 6 with fail
  refine wp_region_one [29, 30, 31, 32, 28, 33, 34, 8, 104, 9] 8 [rEq (.agg #[.int .i64 s, .int .i64 ww, .int .i64 t, .int .i64 en]), rEq (.agg #[.slice A n c, .int .i64 S]), (rBur 0 l n S), rEq (.tuple #[.agg #[.int .i64 sn, .int .i64 sd], .int .i64 eh]), rEq (.tuple #[.agg #[.int .i64 sn, .int .i64 sd], .int .i64 eh]), rEq (.agg #[.int .i64 sn, .int .i64 sd]), rEq (.int .i64 eh), (rPtr0 w3.heap.size), (rAny), rEq (.int .i64 eh)] [rEq (.agg #[.int .i64 s, .int .i64 ww, .int .i64 t, .int .i64 en]), rEq (.agg #[.slice A n c, .int .i64 S]), (rAny), rEq (.tuple #[.agg #[.int .i64 sn, .int .i64 sd], .int .i64 eh]), rEq (.tuple #[.agg #[.int .i64 sn, .int .i64 sd], .int .i64 eh]), rEq (.agg #[.int .i64 sn, .int .i64 sd]), rEq (.int .i64 eh), (rPtr1 w3.heap.size sn sd), (rAny), rEq (.int .i64 eh)] [8, 9] [0, 1, 2, 3, 4, 5, 7, 8] (by kernel_rfl) (by kernel_rfl) (by decide) rfl ?_ (by decide) ?_ ?_ rfl ?_ ?_ ?_ ?_
  · intro i h
    have hi := stores_lt h
    revert h
    revert hi
    revert i
    decide +kernel
  · intro i o ho he
    have he' : i = 8 ∨ i = 9 := by simpa using he
    rcases he' with rfl | rfl
    · exact .inl rfl
    · cases ho; exact .inr (by decide)
  · intro i os ho hi he
    cases ho
    revert he
    revert hi
    revert i
    decide +kernel
  · refine ⟨?_, ?_, ?_, ?_, ?_, ?_, ?_, ?_, ?_, ?_, trivial⟩
    · intro _ ac wx hf hb hd -- 0
      have f2 : ac.tmps[2]?.getD undef = .pointer (some ⟨w.heap.size, 0, none⟩) := by rw [← Array.getD_eq_getD_getElem?]; exact hf.same 2 (by decide)
      obtain ⟨c0, c1, c2, c3, c4, c5⟩ := HC3.out wx hb
      exact rstep_eq (by simp [execOp, Act.eval, f2, c0, c1, c2, c3, go_sem]) rfl
    · intro _ ac wx hf hb hd -- 1
      have f3 : ac.tmps[3]?.getD undef = .pointer (some ⟨w.heap.size + 1, 0, none⟩) := by rw [← Array.getD_eq_getD_getElem?]; exact hf.same 3 (by decide)
      obtain ⟨c0, c1, c2, c3, c4, c5⟩ := HC3.out wx hb
      exact rstep_eq (by simp [execOp, Act.eval, f3, c4, c5, go_sem]) rfl
    · intro _ ac wx hf hb hd -- 2
      have d1 : ac.tmps[30]?.getD undef = .agg #[.slice A n c, .int .i64 S] := by rw [← Array.getD_eq_getD_getElem?]; exact hd 1 (by decide)
      exact rstep_copied (A := A) (c := c) (by omega) (HR.out.below (HW3.out.trans (hb.mono HW3.out.size))) (by simp [Act.eval, d1, buV, go_sem]) rfl
    · intro _ ac wx hf hb hd -- 3
      have d0 : ac.tmps[29]?.getD undef = .agg #[.int .i64 s, .int .i64 ww, .int .i64 t, .int .i64 en] := by rw [← Array.getD_eq_getD_getElem?]; exact hd 0 (by decide)
      obtain ⟨A2, cc2, d2, r2, -⟩ : ∃ A c, ac.tmps[31]?.getD undef = buV A n c S ∧ PtRow wx A n l ∧ _ := by rw [← Array.getD_eq_getD_getElem?]; exact hd 2 (by decide)
      refine rstep_call (f := 36) (args := #[.agg #[.int .i64 s, .int .i64 ww, .int .i64 t, .int .i64 en], buV A2 n cc2 S]) (by simp [Act.eval, d0, d2, go_sem]) ?_ rfl
      exact HSR.out _ _ _ r2
    · intro _ ac wx hf hb hd -- 4
      have d3 : ac.tmps[32]?.getD undef = .tuple #[.agg #[.int .i64 sn, .int .i64 sd], .int .i64 eh] := by rw [← Array.getD_eq_getD_getElem?]; exact hd 3 (by decide)
      exact rstep_eq (by simp [execOp, Act.eval, d3, go_sem]) rfl
    · intro _ ac wx hf hb hd -- 5
      have d4 : ac.tmps[28]?.getD undef = .tuple #[.agg #[.int .i64 sn, .int .i64 sd], .int .i64 eh] := by rw [← Array.getD_eq_getD_getElem?]; exact hd 4 (by decide)
      exact rstep_eq (by simp [execOp, Act.eval, d4, go_sem]) rfl
    · intro _ ac wx hf hb hd -- 6
      have d4 : ac.tmps[28]?.getD undef = .tuple #[.agg #[.int .i64 sn, .int .i64 sd], .int .i64 eh] := by rw [← Array.getD_eq_getD_getElem?]; exact hd 4 (by decide)
      exact rstep_eq (by simp [execOp, Act.eval, d4, go_sem]) rfl
    · intro _ ac wx hf hb hd -- 7
      exact rstep_alloc hb.size (by simp [execOp, go_sem]) rfl
    · intro h; cases h
    · intro h; cases h
  · refine ⟨?_, ?_, ?_, ?_, ?_, ?_, ?_, ?_, ?_, ?_, trivial⟩
    · intro h; cases h
    · intro h; cases h
    · intro h; cases h
    · intro h; cases h
    · intro h; cases h
    · intro h; cases h
    · intro _ ac wx hf hb hd -- 6
      have d4 : ac.tmps[28]?.getD undef = .tuple #[.agg #[.int .i64 sn, .int .i64 sd], .int .i64 eh] := by rw [← Array.getD_eq_getD_getElem?]; exact hd 4 (by decide)
      exact rstep_eq (by simp [execOp, Act.eval, d4, go_sem]) rfl
    · intro h; cases h
    · intro h; cases h
    · intro _ ac wx hf hb hd -- 9
      have d6 : ac.tmps[34]?.getD undef = .int .i64 eh := by rw [← Array.getD_eq_getD_getElem?]; exact hd 6 (by decide)
      exact rstep_eq (by simp [execOp, Act.eval, d6, go_sem]) rfl
  · intro o ac wx ho hf hb hd
    have ho2 : _ = o := Option.some.inj ho
    subst ho2
    clear ho
    obtain ⟨pb, dp, pb0, pb1, p0, p1, p2, p3⟩ : ∃ blk, ac.tmps[8]?.getD undef = .pointer (some ⟨blk, 0, none⟩) ∧ w3.heap.size ≤ blk ∧ blk < wx.heap.size ∧ wx.cell? ⟨blk, 0, none⟩ = some (.int .i64 0) ∧ wx.cell? ⟨blk, 1, none⟩ = some (.int .i64 0) ∧ wx.frozen? ⟨blk, 0, none⟩ = false ∧ wx.frozen? ⟨blk, 1, none⟩ = false := by rw [← Array.getD_eq_getD_getElem?]; exact hd 7 (by decide)
    have dv : ac.tmps[33]?.getD undef = .agg #[.int .i64 sn, .int .i64 sd] := by rw [← Array.getD_eq_getD_getElem?]; exact hd 5 (by decide)
    simp [Oper.wp, Oper.upon, execOp, Act.eval, go_sem, dp, dv, p0, p1, p2, p3]
    refine ⟨(hb.setCell (p := ⟨pb, 0, none⟩) pb0 _).setCell (p := ⟨pb, 1, none⟩) pb0 _, fun j d hj hL => ?_⟩
    match j, hj, hL with
    | 0, _, hL => exact hL
    | 1, _, hL => exact hL
    | 2, _, _ => exact trivial
    | 3, _, hL => exact hL
    | 4, _, hL => exact hL
    | 5, _, hL => exact hL
    | 6, _, hL => exact hL
    | 7, hj, _ =>
      cases hj
      exact ⟨pb, dp, pb0, by simpa using pb1, (World.cell?_setCell_other _ _ _ _ (by simp)).trans (World.cell?_setCell_same _ _ _ p0), World.cell?_setCell_same _ _ _ ((World.cell?_setCell_other _ _ _ _ (by simp)).trans p1)⟩
    | 8, _, _ => exact trivial
    | 9, _, hL => exact hL
    | _ + 10, hj, _ => simp at hj
  rintro ⟨⟨ll⟩, df⟩ w4 hf hbw4 hall
  have hdf : df = [] := hf.defers
  subst hdf
  have hsz : ll.length = 105 := hf.size
  obtain ⟨x0, ll0, rfl, hsz0⟩ := cons_of hsz
  obtain ⟨x1, ll1, rfl, hsz1⟩ := cons_of hsz0
  obtain ⟨x2, ll2, rfl, hsz2⟩ := cons_of hsz1
  obtain ⟨x3, ll3, rfl, hsz3⟩ := cons_of hsz2
  obtain ⟨x4, ll4, rfl, hsz4⟩ := cons_of hsz3
  obtain ⟨x5, ll5, rfl, hsz5⟩ := cons_of hsz4
  obtain ⟨x6, ll6, rfl, hsz6⟩ := cons_of hsz5
  obtain ⟨x7, ll7, rfl, hsz7⟩ := cons_of hsz6
  obtain ⟨x8, ll8, rfl, hsz8⟩ := cons_of hsz7
  obtain ⟨x9, ll9, rfl, hsz9⟩ := cons_of hsz8
  obtain ⟨x10, ll10, rfl, hsz10⟩ := cons_of hsz9
  obtain ⟨x11, ll11, rfl, hsz11⟩ := cons_of hsz10
  obtain ⟨x12, ll12, rfl, hsz12⟩ := cons_of hsz11
  obtain ⟨x13, ll13, rfl, hsz13⟩ := cons_of hsz12
  obtain ⟨x14, ll14, rfl, hsz14⟩ := cons_of hsz13
  obtain ⟨x15, ll15, rfl, hsz15⟩ := cons_of hsz14
  obtain ⟨x16, ll16, rfl, hsz16⟩ := cons_of hsz15
  obtain ⟨x17, ll17, rfl, hsz17⟩ := cons_of hsz16
  obtain ⟨x18, ll18, rfl, hsz18⟩ := cons_of hsz17
  obtain ⟨x19, ll19, rfl, hsz19⟩ := cons_of hsz18
  obtain ⟨x20, ll20, rfl, hsz20⟩ := cons_of hsz19
  obtain ⟨x21, ll21, rfl, hsz21⟩ := cons_of hsz20
  obtain ⟨x22, ll22, rfl, hsz22⟩ := cons_of hsz21
  obtain ⟨x23, ll23, rfl, hsz23⟩ := cons_of hsz22
  obtain ⟨x24, ll24, rfl, hsz24⟩ := cons_of hsz23
  obtain ⟨x25, ll25, rfl, hsz25⟩ := cons_of hsz24
  obtain ⟨x26, ll26, rfl, hsz26⟩ := cons_of hsz25
  obtain ⟨x27, ll27, rfl, hsz27⟩ := cons_of hsz26
  obtain ⟨x28, ll28, rfl, hsz28⟩ := cons_of hsz27
  obtain ⟨x29, ll29, rfl, hsz29⟩ := cons_of hsz28
  obtain ⟨x30, ll30, rfl, hsz30⟩ := cons_of hsz29
  obtain ⟨x31, ll31, rfl, hsz31⟩ := cons_of hsz30
  obtain ⟨x32, ll32, rfl, hsz32⟩ := cons_of hsz31
  obtain ⟨x33, ll33, rfl, hsz33⟩ := cons_of hsz32
  obtain ⟨x34, ll34, rfl, hsz34⟩ := cons_of hsz33
  obtain ⟨x35, ll35, rfl, hsz35⟩ := cons_of hsz34
  obtain ⟨x36, ll36, rfl, hsz36⟩ := cons_of hsz35
  obtain ⟨x37, ll37, rfl, hsz37⟩ := cons_of hsz36
  obtain ⟨x38, ll38, rfl, hsz38⟩ := cons_of hsz37
  obtain ⟨x39, ll39, rfl, hsz39⟩ := cons_of hsz38
  obtain ⟨x40, ll40, rfl, hsz40⟩ := cons_of hsz39
  obtain ⟨x41, ll41, rfl, hsz41⟩ := cons_of hsz40
  obtain ⟨x42, ll42, rfl, hsz42⟩ := cons_of hsz41
  obtain ⟨x43, ll43, rfl, hsz43⟩ := cons_of hsz42
  obtain ⟨x44, ll44, rfl, hsz44⟩ := cons_of hsz43
  obtain ⟨x45, ll45, rfl, hsz45⟩ := cons_of hsz44
  obtain ⟨x46, ll46, rfl, hsz46⟩ := cons_of hsz45
  obtain ⟨x47, ll47, rfl, hsz47⟩ := cons_of hsz46
  obtain ⟨x48, ll48, rfl, hsz48⟩ := cons_of hsz47
  obtain ⟨x49, ll49, rfl, hsz49⟩ := cons_of hsz48
  obtain ⟨x50, ll50, rfl, hsz50⟩ := cons_of hsz49
  obtain ⟨x51, ll51, rfl, hsz51⟩ := cons_of hsz50
  obtain ⟨x52, ll52, rfl, hsz52⟩ := cons_of hsz51
  obtain ⟨x53, ll53, rfl, hsz53⟩ := cons_of hsz52
  obtain ⟨x54, ll54, rfl, hsz54⟩ := cons_of hsz53
  obtain ⟨x55, ll55, rfl, hsz55⟩ := cons_of hsz54
  obtain ⟨x56, ll56, rfl, hsz56⟩ := cons_of hsz55
  obtain ⟨x57, ll57, rfl, hsz57⟩ := cons_of hsz56
  obtain ⟨x58, ll58, rfl, hsz58⟩ := cons_of hsz57
  obtain ⟨x59, ll59, rfl, hsz59⟩ := cons_of hsz58
  obtain ⟨x60, ll60, rfl, hsz60⟩ := cons_of hsz59
  obtain ⟨x61, ll61, rfl, hsz61⟩ := cons_of hsz60
  obtain ⟨x62, ll62, rfl, hsz62⟩ := cons_of hsz61
  obtain ⟨x63, ll63, rfl, hsz63⟩ := cons_of hsz62
  obtain ⟨x64, ll64, rfl, hsz64⟩ := cons_of hsz63
  obtain ⟨x65, ll65, rfl, hsz65⟩ := cons_of hsz64
  obtain ⟨x66, ll66, rfl, hsz66⟩ := cons_of hsz65
  obtain ⟨x67, ll67, rfl, hsz67⟩ := cons_of hsz66
  obtain ⟨x68, ll68, rfl, hsz68⟩ := cons_of hsz67
  obtain ⟨x69, ll69, rfl, hsz69⟩ := cons_of hsz68
  obtain ⟨x70, ll70, rfl, hsz70⟩ := cons_of hsz69
  obtain ⟨x71, ll71, rfl, hsz71⟩ := cons_of hsz70
  obtain ⟨x72, ll72, rfl, hsz72⟩ := cons_of hsz71
  obtain ⟨x73, ll73, rfl, hsz73⟩ := cons_of hsz72
  obtain ⟨x74, ll74, rfl, hsz74⟩ := cons_of hsz73
  obtain ⟨x75, ll75, rfl, hsz75⟩ := cons_of hsz74
  obtain ⟨x76, ll76, rfl, hsz76⟩ := cons_of hsz75
  obtain ⟨x77, ll77, rfl, hsz77⟩ := cons_of hsz76
  obtain ⟨x78, ll78, rfl, hsz78⟩ := cons_of hsz77
  obtain ⟨x79, ll79, rfl, hsz79⟩ := cons_of hsz78
  obtain ⟨x80, ll80, rfl, hsz80⟩ := cons_of hsz79
  obtain ⟨x81, ll81, rfl, hsz81⟩ := cons_of hsz80
  obtain ⟨x82, ll82, rfl, hsz82⟩ := cons_of hsz81
  obtain ⟨x83, ll83, rfl, hsz83⟩ := cons_of hsz82
  obtain ⟨x84, ll84, rfl, hsz84⟩ := cons_of hsz83
  obtain ⟨x85, ll85, rfl, hsz85⟩ := cons_of hsz84
  obtain ⟨x86, ll86, rfl, hsz86⟩ := cons_of hsz85
  obtain ⟨x87, ll87, rfl, hsz87⟩ := cons_of hsz86
  obtain ⟨x88, ll88, rfl, hsz88⟩ := cons_of hsz87
  obtain ⟨x89, ll89, rfl, hsz89⟩ := cons_of hsz88
  obtain ⟨x90, ll90, rfl, hsz90⟩ := cons_of hsz89
  obtain ⟨x91, ll91, rfl, hsz91⟩ := cons_of hsz90
  obtain ⟨x92, ll92, rfl, hsz92⟩ := cons_of hsz91
  obtain ⟨x93, ll93, rfl, hsz93⟩ := cons_of hsz92
  obtain ⟨x94, ll94, rfl, hsz94⟩ := cons_of hsz93
  obtain ⟨x95, ll95, rfl, hsz95⟩ := cons_of hsz94
  obtain ⟨x96, ll96, rfl, hsz96⟩ := cons_of hsz95
  obtain ⟨x97, ll97, rfl, hsz97⟩ := cons_of hsz96
  obtain ⟨x98, ll98, rfl, hsz98⟩ := cons_of hsz97
  obtain ⟨x99, ll99, rfl, hsz99⟩ := cons_of hsz98
  obtain ⟨x100, ll100, rfl, hsz100⟩ := cons_of hsz99
  obtain ⟨x101, ll101, rfl, hsz101⟩ := cons_of hsz100
  obtain ⟨x102, ll102, rfl, hsz102⟩ := cons_of hsz101
  obtain ⟨x103, ll103, rfl, hsz103⟩ := cons_of hsz102
  obtain ⟨x104, ll104, rfl, hsz104⟩ := cons_of hsz103
  obtain rfl := List.eq_nil_of_length_eq_zero hsz104
  obtain rfl : x2 = .pointer (some ⟨w.heap.size, 0, none⟩) := hf.same 2 (by decide)
  obtain rfl : x3 = .pointer (some ⟨w.heap.size + 1, 0, none⟩) := hf.same 3 (by decide)
  obtain rfl : x5 = .int .i64 p := hf.same 5 (by decide)
  obtain rfl : x6 = .pointer (some ⟨pw3, 0, none⟩) := hf.same 6 (by decide)
  obtain rfl : x7 = .int .i64 eh := hf.same 7 (by decide)
  obtain rfl : x9 = .int .i64 eh := hall 9 9 rfl
  obtain rfl : x28 = .tuple #[.agg #[.int .i64 sn, .int .i64 sd], .int .i64 eh] := hall 4 28 rfl
  obtain rfl : x29 = .agg #[.int .i64 s, .int .i64 ww, .int .i64 t, .int .i64 en] := hall 0 29 rfl
  obtain rfl : x30 = .agg #[.slice A n c, .int .i64 S] := hall 1 30 rfl
  obtain rfl : x32 = .tuple #[.agg #[.int .i64 sn, .int .i64 sd], .int .i64 eh] := hall 3 32 rfl
  obtain rfl : x33 = .agg #[.int .i64 sn, .int .i64 sd] := hall 5 33 rfl
  obtain rfl : x34 = .int .i64 eh := hall 6 34 rfl
  obtain ⟨pw4, hxw4, plw4, psw4, paw4, pcw4⟩ : ∃ blk, x8 = .pointer (some ⟨blk, 0, none⟩) ∧ w3.heap.size ≤ blk ∧ blk < w4.heap.size ∧ w4.cell? ⟨blk, 0, none⟩ = some (.int .i64 sn) ∧ w4.cell? ⟨blk, 1, none⟩ = some (.int .i64 sd) := hall 7 8 rfl
  subst hxw4
  clear hall hf
  have H4 := Lib.hid (H3.out.trans (hbw4.mono H3.out.size))
  have hw3 := hbw4.size
  have q0 := ((bcell hbw4).1 _ _ psw3).trans paw3
  have q1 := ((bcell hbw4).1 _ _ psw3).trans pcw3
  have psw3' : pw3 < w4.heap.size := by omega
  obtain ⟨k0, k1, k2, k3, k4, k5⟩ := HC.out w4 H4.out
  clear hbw4 paw3 pcw3
  go_upto_region 8 with (go_at_call 23; (refine Calls.mono (HCB.out _ (HB0.out.trans (H4.out.mono HB0.out.size))) ?_); rintro e w6 ⟨rfl, hb6⟩; have H6 := Lib.hid (H4.out.trans (hb6.mono H4.out.size)); have r0 := ((bcell hb6).1 _ _ psw3').trans q0; have r1 := ((bcell hb6).1 _ _ psw3').trans q1; have r2 := ((bcell hb6).1 _ _ psw4).trans paw4; have r3 := ((bcell hb6).1 _ _ psw4).trans pcw4; clear hb6)
  clear q0 q1 paw4 pcw4 k0 k1 k2 k3 k4 k5
  have lw3 : pw3 < w6.heap.size := World.block_lt_of_cell? w6 _ r0
  have lw4 : pw4 < w6.heap.size := World.block_lt_of_cell? w6 _ r2
  have H6W := Lib.hid (HB0.out.trans (H6.out.mono HB0.out.size))
  have NO := fun wx b (h0 : World.cell? wx ⟨b, 0, none⟩ = some (.int .i64 0)) (h1 : World.cell? wx ⟨b, 1, none⟩ = some (.int .i64 0)) (h2 : World.cell? wx ⟨b, 2, none⟩ = some (.int .i64 0)) (h3 : World.cell? wx ⟨b, 3, none⟩ = some (.int .i64 0)) => Lib.hid (none_two (c := 2) wx h0 h1 h2 h3)
  clear psw3' psw3 psw4 hw3 plw3 plw4
  rcases HH.out with ⟨hdz, rfl, rfl, rfl, rfl, rfl, rfl⟩ | ⟨rfl, rfl⟩
  · have hde : (eh == 0) = false := by simpa using hdz
    obtain ⟨m0, m1, m2, m3, m4, m5⟩ := HC.out w6 H6.out
    go_wp2_with (go_at_call 27; (refine Calls.mono (NO _ _ (by simp [go_sem]) (by simp [go_sem]) (by simp [go_sem]) (by simp [go_sem])).out ?_); rintro e w7 ⟨rfl, rfl⟩)
    go_ret
    exact ⟨rfl, HB0.out.trans ((H6.out.alloc H6.out.size _).mono HB0.out.size)⟩
  have RG2 := HRG.out rfl
  have HRG2 := Lib.hid RG2
  have RS2 := HRS.out rfl
  have HRS2 := Lib.hid RS2
  have MO2 := HMO.out rfl
  have HMO2 := Lib.hid MO2
  clear HRG RG2 HRS RS2 HMO MO2 HCB HSR HGM HC2 HC3
  have HC6 := Lib.hid (fun wy (hy : Below w6.heap.size w6 wy) => HC.out wy (H6.out.trans (hy.mono H6.out.size)))
  go_upto_region 10 with fail
  refine wp_region_one [59, 60, 61, 62, 63, 64, 58, 65, 66, 11, 104, 12] 10 [rEq (.agg #[.int .i64 s, .int .i64 ww, .int .i64 t, .int .i64 en]), rEq (.agg #[.slice A n c, .int .i64 S]), (rBur 0 l n S), rEq (.pointer (some ⟨w.heap.size, 0, none⟩)), rEq (.int .i64 s), rEq (.tuple #[.agg #[.int .i64 0, .int .i64 zd], .int .i64 0]), rEq (.tuple #[.agg #[.int .i64 0, .int .i64 zd], .int .i64 0]), rEq (.agg #[.int .i64 0, .int .i64 zd]), rEq (.int .i64 0), (rPtr0 w6.heap.size), (rAny), rEq (.int .i64 0)] [rEq (.agg #[.int .i64 s, .int .i64 ww, .int .i64 t, .int .i64 en]), rEq (.agg #[.slice A n c, .int .i64 S]), (rAny), rEq (.pointer (some ⟨w.heap.size, 0, none⟩)), rEq (.int .i64 s), rEq (.tuple #[.agg #[.int .i64 0, .int .i64 zd], .int .i64 0]), rEq (.tuple #[.agg #[.int .i64 0, .int .i64 zd], .int .i64 0]), rEq (.agg #[.int .i64 0, .int .i64 zd]), rEq (.int .i64 0), (rPtr1 w6.heap.size 0 zd), (rAny), rEq (.int .i64 0)] [10, 11] [0, 1, 2, 3, 4, 5, 6, 7, 9, 10] (by kernel_rfl) (by kernel_rfl) (by decide) rfl ?_ (by decide) ?_ ?_ rfl ?_ ?_ ?_ ?_
  · intro i h
    have hi := stores_lt h
    revert h
    revert hi
    revert i
    decide +kernel
  · intro i o ho he
    have he' : i = 10 ∨ i = 11 := by simpa using he
    rcases he' with rfl | rfl
    · exact .inl rfl
    · cases ho; exact .inr (by decide)
  · intro i os ho hi he
    cases ho
    revert he
    revert hi
    revert i
    decide +kernel
  · refine ⟨?_, ?_, ?_, ?_, ?_, ?_, ?_, ?_, ?_, ?_, ?_, ?_, trivial⟩
    · intro _ ac wx hf hb hd -- 0
      have f2 : ac.tmps[2]?.getD undef = .pointer (some ⟨w.heap.size, 0, none⟩) := by rw [← Array.getD_eq_getD_getElem?]; exact hf.same 2 (by decide)
      obtain ⟨c0, c1, c2, c3, c4, c5⟩ := HC6.out wx hb
      exact rstep_eq (by simp [execOp, Act.eval, f2, c0, c1, c2, c3, go_sem]) rfl
    · intro _ ac wx hf hb hd -- 1
      have f3 : ac.tmps[3]?.getD undef = .pointer (some ⟨w.heap.size + 1, 0, none⟩) := by rw [← Array.getD_eq_getD_getElem?]; exact hf.same 3 (by decide)
      obtain ⟨c0, c1, c2, c3, c4, c5⟩ := HC6.out wx hb
      exact rstep_eq (by simp [execOp, Act.eval, f3, c4, c5, go_sem]) rfl
    · intro _ ac wx hf hb hd -- 2
      have d1 : ac.tmps[60]?.getD undef = .agg #[.slice A n c, .int .i64 S] := by rw [← Array.getD_eq_getD_getElem?]; exact hd 1 (by decide)
      exact rstep_copied (A := A) (c := c) (by omega) (HR.out.below (H6W.out.trans (hb.mono H6W.out.size))) (by simp [Act.eval, d1, buV, go_sem]) rfl
    · intro _ ac wx hf hb hd -- 3
      have f2 : ac.tmps[2]?.getD undef = .pointer (some ⟨w.heap.size, 0, none⟩) := by rw [← Array.getD_eq_getD_getElem?]; exact hf.same 2 (by decide)
      exact rstep_eq (by simp [execOp, Act.eval, f2, go_sem]) rfl
    · intro _ ac wx hf hb hd -- 4
      have d3 : ac.tmps[62]?.getD undef = .pointer (some ⟨w.heap.size, 0, none⟩) := by rw [← Array.getD_eq_getD_getElem?]; exact hd 3 (by decide)
      obtain ⟨c0, c1, c2, c3, c4, c5⟩ := HC6.out wx hb
      exact rstep_eq (by simp [execOp, Act.eval, d3, c0, go_sem]) rfl
    · intro _ ac wx hf hb hd -- 5
      have d0 : ac.tmps[59]?.getD undef = .agg #[.int .i64 s, .int .i64 ww, .int .i64 t, .int .i64 en] := by rw [← Array.getD_eq_getD_getElem?]; exact hd 0 (by decide)
      obtain ⟨A2, cc2, d2, r2, -⟩ : ∃ A c, ac.tmps[61]?.getD undef = buV A n c S ∧ PtRow wx A n l ∧ _ := by rw [← Array.getD_eq_getD_getElem?]; exact hd 2 (by decide)
      have d4 : ac.tmps[63]?.getD undef = .int .i64 s := by rw [← Array.getD_eq_getD_getElem?]; exact hd 4 (by decide)
      refine rstep_call (f := 31) (args := #[.agg #[.int .i64 s, .int .i64 ww, .int .i64 t, .int .i64 en], buV A2 n cc2 S, .int .i64 s]) (by simp [Act.eval, d0, d2, d4, go_sem]) ?_ rfl
      exact HMO2.out _ _ _ r2
    · intro _ ac wx hf hb hd -- 6
      have d5 : ac.tmps[64]?.getD undef = .tuple #[.agg #[.int .i64 0, .int .i64 zd], .int .i64 0] := by rw [← Array.getD_eq_getD_getElem?]; exact hd 5 (by decide)
      exact rstep_eq (by simp [execOp, Act.eval, d5, go_sem]) rfl
    · intro _ ac wx hf hb hd -- 7
      have d6 : ac.tmps[58]?.getD undef = .tuple #[.agg #[.int .i64 0, .int .i64 zd], .int .i64 0] := by rw [← Array.getD_eq_getD_getElem?]; exact hd 6 (by decide)
      exact rstep_eq (by simp [execOp, Act.eval, d6, go_sem]) rfl
    · intro _ ac wx hf hb hd -- 8
      have d6 : ac.tmps[58]?.getD undef = .tuple #[.agg #[.int .i64 0, .int .i64 zd], .int .i64 0] := by rw [← Array.getD_eq_getD_getElem?]; exact hd 6 (by decide)
      exact rstep_eq (by simp [execOp, Act.eval, d6, go_sem]) rfl
    · intro _ ac wx hf hb hd -- 9
      exact rstep_alloc hb.size (by simp [execOp, go_sem]) rfl
    · intro h; cases h
    · intro h; cases h
  · refine ⟨?_, ?_, ?_, ?_, ?_, ?_, ?_, ?_, ?_, ?_, ?_, ?_, trivial⟩
    · intro h; cases h
    · intro h; cases h
    · intro h; cases h
    · intro h; cases h
    · intro h; cases h
    · intro h; cases h
    · intro h; cases h
    · intro h; cases h
    · intro _ ac wx hf hb hd -- 8
      have d6 : ac.tmps[58]?.getD undef = .tuple #[.agg #[.int .i64 0, .int .i64 zd], .int .i64 0] := by rw [← Array.getD_eq_getD_getElem?]; exact hd 6 (by decide)
      exact rstep_eq (by simp [execOp, Act.eval, d6, go_sem]) rfl
    · intro h; cases h
    · intro h; cases h
    · intro _ ac wx hf hb hd -- 11
      have d8 : ac.tmps[66]?.getD undef = .int .i64 0 := by rw [← Array.getD_eq_getD_getElem?]; exact hd 8 (by decide)
      exact rstep_eq (by simp [execOp, Act.eval, d8, go_sem]) rfl
  · intro o ac wx ho hf hb hd
    have ho2 : _ = o := Option.some.inj ho
    subst ho2
    clear ho
    obtain ⟨pb, dp, pb0, pb1, p0, p1, p2, p3⟩ : ∃ blk, ac.tmps[11]?.getD undef = .pointer (some ⟨blk, 0, none⟩) ∧ w6.heap.size ≤ blk ∧ blk < wx.heap.size ∧ wx.cell? ⟨blk, 0, none⟩ = some (.int .i64 0) ∧ wx.cell? ⟨blk, 1, none⟩ = some (.int .i64 0) ∧ wx.frozen? ⟨blk, 0, none⟩ = false ∧ wx.frozen? ⟨blk, 1, none⟩ = false := by rw [← Array.getD_eq_getD_getElem?]; exact hd 9 (by decide)
    have dv : ac.tmps[65]?.getD undef = .agg #[.int .i64 0, .int .i64 zd] := by rw [← Array.getD_eq_getD_getElem?]; exact hd 7 (by decide)
    simp [Oper.wp, Oper.upon, execOp, Act.eval, go_sem, dp, dv, p0, p1, p2, p3]
    refine ⟨(hb.setCell (p := ⟨pb, 0, none⟩) pb0 _).setCell (p := ⟨pb, 1, none⟩) pb0 _, fun j d hj hL => ?_⟩
    match j, hj, hL with
    | 0, _, hL => exact hL
    | 1, _, hL => exact hL
    | 2, _, _ => exact trivial
    | 3, _, hL => exact hL
    | 4, _, hL => exact hL
    | 5, _, hL => exact hL
    | 6, _, hL => exact hL
    | 7, _, hL => exact hL
    | 8, _, hL => exact hL
    | 9, hj, _ =>
      cases hj
      exact ⟨pb, dp, pb0, by simpa using pb1, (World.cell?_setCell_other _ _ _ _ (by simp)).trans (World.cell?_setCell_same _ _ _ p0), World.cell?_setCell_same _ _ _ ((World.cell?_setCell_other _ _ _ _ (by simp)).trans p1)⟩
    | 10, _, _ => exact trivial
    | 11, _, hL => exact hL
    | _ + 12, hj, _ => simp at hj
  rintro ⟨⟨ll⟩, df⟩ w8 hf hbw8 hall
  have hdf : df = [] := hf.defers
  subst hdf
  have hsz : ll.length = 105 := hf.size
  obtain ⟨x0, ll0, rfl, hsz0⟩ := cons_of hsz
  obtain ⟨x1, ll1, rfl, hsz1⟩ := cons_of hsz0
  obtain ⟨x2, ll2, rfl, hsz2⟩ := cons_of hsz1
  obtain ⟨x3, ll3, rfl, hsz3⟩ := cons_of hsz2
  obtain ⟨x4, ll4, rfl, hsz4⟩ := cons_of hsz3
  obtain ⟨x5, ll5, rfl, hsz5⟩ := cons_of hsz4
  obtain ⟨x6, ll6, rfl, hsz6⟩ := cons_of hsz5
  obtain ⟨x7, ll7, rfl, hsz7⟩ := cons_of hsz6
  obtain ⟨x8, ll8, rfl, hsz8⟩ := cons_of hsz7
  obtain ⟨x9, ll9, rfl, hsz9⟩ := cons_of hsz8
  obtain ⟨x10, ll10, rfl, hsz10⟩ := cons_of hsz9
  obtain ⟨x11, ll11, rfl, hsz11⟩ := cons_of hsz10
  obtain ⟨x12, ll12, rfl, hsz12⟩ := cons_of hsz11
  obtain ⟨x13, ll13, rfl, hsz13⟩ := cons_of hsz12
  obtain ⟨x14, ll14, rfl, hsz14⟩ := cons_of hsz13
  obtain ⟨x15, ll15, rfl, hsz15⟩ := cons_of hsz14
  obtain ⟨x16, ll16, rfl, hsz16⟩ := cons_of hsz15
  obtain ⟨x17, ll17, rfl, hsz17⟩ := cons_of hsz16
  obtain ⟨x18, ll18, rfl, hsz18⟩ := cons_of hsz17
  obtain ⟨x19, ll19, rfl, hsz19⟩ := cons_of hsz18
  obtain ⟨x20, ll20, rfl, hsz20⟩ := cons_of hsz19
  obtain ⟨x21, ll21, rfl, hsz21⟩ := cons_of hsz20
  obtain ⟨x22, ll22, rfl, hsz22⟩ := cons_of hsz21
  obtain ⟨x23, ll23, rfl, hsz23⟩ := cons_of hsz22
  obtain ⟨x24, ll24, rfl, hsz24⟩ := cons_of hsz23
  obtain ⟨x25, ll25, rfl, hsz25⟩ := cons_of hsz24
  obtain ⟨x26, ll26, rfl, hsz26⟩ := cons_of hsz25
  obtain ⟨x27, ll27, rfl, hsz27⟩ := cons_of hsz26
  obtain ⟨x28, ll28, rfl, hsz28⟩ := cons_of hsz27
  obtain ⟨x29, ll29, rfl, hsz29⟩ := cons_of hsz28
  obtain ⟨x30, ll30, rfl, hsz30⟩ := cons_of hsz29
  obtain ⟨x31, ll31, rfl, hsz31⟩ := cons_of hsz30
  obtain ⟨x32, ll32, rfl, hsz32⟩ := cons_of hsz31
  obtain ⟨x33, ll33, rfl, hsz33⟩ := cons_of hsz32
  obtain ⟨x34, ll34, rfl, hsz34⟩ := cons_of hsz33
  obtain ⟨x35, ll35, rfl, hsz35⟩ := cons_of hsz34
  obtain ⟨x36, ll36, rfl, hsz36⟩ := cons_of hsz35
  obtain ⟨x37, ll37, rfl, hsz37⟩ := cons_of hsz36
  obtain ⟨x38, ll38, rfl, hsz38⟩ := cons_of hsz37
  obtain ⟨x39, ll39, rfl, hsz39⟩ := cons_of hsz38
  obtain ⟨x40, ll40, rfl, hsz40⟩ := cons_of hsz39
  obtain ⟨x41, ll41, rfl, hsz41⟩ := cons_of hsz40
  obtain ⟨x42, ll42, rfl, hsz42⟩ := cons_of hsz41
  obtain ⟨x43, ll43, rfl, hsz43⟩ := cons_of hsz42
  obtain ⟨x44, ll44, rfl, hsz44⟩ := cons_of hsz43
  obtain ⟨x45, ll45, rfl, hsz45⟩ := cons_of hsz44
  obtain ⟨x46, ll46, rfl, hsz46⟩ := cons_of hsz45
  obtain ⟨x47, ll47, rfl, hsz47⟩ := cons_of hsz46
  obtain ⟨x48, ll48, rfl, hsz48⟩ := cons_of hsz47
  obtain ⟨x49, ll49, rfl, hsz49⟩ := cons_of hsz48
  obtain ⟨x50, ll50, rfl, hsz50⟩ := cons_of hsz49
  obtain ⟨x51, ll51, rfl, hsz51⟩ := cons_of hsz50
  obtain ⟨x52, ll52, rfl, hsz52⟩ := cons_of hsz51
  obtain ⟨x53, ll53, rfl, hsz53⟩ := cons_of hsz52
  obtain ⟨x54, ll54, rfl, hsz54⟩ := cons_of hsz53
  obtain ⟨x55, ll55, rfl, hsz55⟩ := cons_of hsz54
  obtain ⟨x56, ll56, rfl, hsz56⟩ := cons_of hsz55
  obtain ⟨x57, ll57, rfl, hsz57⟩ := cons_of hsz56
  obtain ⟨x58, ll58, rfl, hsz58⟩ := cons_of hsz57
  obtain ⟨x59, ll59, rfl, hsz59⟩ := cons_of hsz58
  obtain ⟨x60, ll60, rfl, hsz60⟩ := cons_of hsz59
  obtain ⟨x61, ll61, rfl, hsz61⟩ := cons_of hsz60
  obtain ⟨x62, ll62, rfl, hsz62⟩ := cons_of hsz61
  obtain ⟨x63, ll63, rfl, hsz63⟩ := cons_of hsz62
  obtain ⟨x64, ll64, rfl, hsz64⟩ := cons_of hsz63
  obtain ⟨x65, ll65, rfl, hsz65⟩ := cons_of hsz64
  obtain ⟨x66, ll66, rfl, hsz66⟩ := cons_of hsz65
  obtain ⟨x67, ll67, rfl, hsz67⟩ := cons_of hsz66
  obtain ⟨x68, ll68, rfl, hsz68⟩ := cons_of hsz67
  obtain ⟨x69, ll69, rfl, hsz69⟩ := cons_of hsz68
  obtain ⟨x70, ll70, rfl, hsz70⟩ := cons_of hsz69
  obtain ⟨x71, ll71, rfl, hsz71⟩ := cons_of hsz70
  obtain ⟨x72, ll72, rfl, hsz72⟩ := cons_of hsz71
  obtain ⟨x73, ll73, rfl, hsz73⟩ := cons_of hsz72
  obtain ⟨x74, ll74, rfl, hsz74⟩ := cons_of hsz73
  obtain ⟨x75, ll75, rfl, hsz75⟩ := cons_of hsz74
  obtain ⟨x76, ll76, rfl, hsz76⟩ := cons_of hsz75
  obtain ⟨x77, ll77, rfl, hsz77⟩ := cons_of hsz76
  obtain ⟨x78, ll78, rfl, hsz78⟩ := cons_of hsz77
  obtain ⟨x79, ll79, rfl, hsz79⟩ := cons_of hsz78
  obtain ⟨x80, ll80, rfl, hsz80⟩ := cons_of hsz79
  obtain ⟨x81, ll81, rfl, hsz81⟩ := cons_of hsz80
  obtain ⟨x82, ll82, rfl, hsz82⟩ := cons_of hsz81
  obtain ⟨x83, ll83, rfl, hsz83⟩ := cons_of hsz82
  obtain ⟨x84, ll84, rfl, hsz84⟩ := cons_of hsz83
  obtain ⟨x85, ll85, rfl, hsz85⟩ := cons_of hsz84
  obtain ⟨x86, ll86, rfl, hsz86⟩ := cons_of hsz85
  obtain ⟨x87, ll87, rfl, hsz87⟩ := cons_of hsz86
  obtain ⟨x88, ll88, rfl, hsz88⟩ := cons_of hsz87
  obtain ⟨x89, ll89, rfl, hsz89⟩ := cons_of hsz88
  obtain ⟨x90, ll90, rfl, hsz90⟩ := cons_of hsz89
  obtain ⟨x91, ll91, rfl, hsz91⟩ := cons_of hsz90
  obtain ⟨x92, ll92, rfl, hsz92⟩ := cons_of hsz91
  obtain ⟨x93, ll93, rfl, hsz93⟩ := cons_of hsz92
  obtain ⟨x94, ll94, rfl, hsz94⟩ := cons_of hsz93
  obtain ⟨x95, ll95, rfl, hsz95⟩ := cons_of hsz94
  obtain ⟨x96, ll96, rfl, hsz96⟩ := cons_of hsz95
  obtain ⟨x97, ll97, rfl, hsz97⟩ := cons_of hsz96
  obtain ⟨x98, ll98, rfl, hsz98⟩ := cons_of hsz97
  obtain ⟨x99, ll99, rfl, hsz99⟩ := cons_of hsz98
  obtain ⟨x100, ll100, rfl, hsz100⟩ := cons_of hsz99
  obtain ⟨x101, ll101, rfl, hsz101⟩ := cons_of hsz100
  obtain ⟨x102, ll102, rfl, hsz102⟩ := cons_of hsz101
  obtain ⟨x103, ll103, rfl, hsz103⟩ := cons_of hsz102
  obtain ⟨x104, ll104, rfl, hsz104⟩ := cons_of hsz103
  obtain rfl := List.eq_nil_of_length_eq_zero hsz104
  obtain rfl : x2 = .pointer (some ⟨w.heap.size, 0, none⟩) := hf.same 2 (by decide)
  obtain rfl : x3 = .pointer (some ⟨w.heap.size + 1, 0, none⟩) := hf.same 3 (by decide)
  obtain rfl : x5 = .int .i64 p := hf.same 5 (by decide)
  obtain rfl : x6 = .pointer (some ⟨pw3, 0, none⟩) := hf.same 6 (by decide)
  obtain rfl : x7 = .int .i64 0 := hf.same 7 (by decide)
  obtain rfl : x8 = .pointer (some ⟨pw4, 0, none⟩) := hf.same 8 (by decide)
  obtain rfl : x9 = .int .i64 0 := hf.same 9 (by decide)
  obtain rfl : x10 = .int .i64 0 := hf.same 10 (by decide)
  obtain rfl : x12 = .int .i64 0 := hall 11 12 rfl
  obtain rfl : x58 = .tuple #[.agg #[.int .i64 0, .int .i64 zd], .int .i64 0] := hall 6 58 rfl
  obtain rfl : x59 = .agg #[.int .i64 s, .int .i64 ww, .int .i64 t, .int .i64 en] := hall 0 59 rfl
  obtain rfl : x60 = .agg #[.slice A n c, .int .i64 S] := hall 1 60 rfl
  obtain rfl : x62 = .pointer (some ⟨w.heap.size, 0, none⟩) := hall 3 62 rfl
  obtain rfl : x63 = .int .i64 s := hall 4 63 rfl
  obtain rfl : x64 = .tuple #[.agg #[.int .i64 0, .int .i64 zd], .int .i64 0] := hall 5 64 rfl
  obtain rfl : x65 = .agg #[.int .i64 0, .int .i64 zd] := hall 7 65 rfl
  obtain rfl : x66 = .int .i64 0 := hall 8 66 rfl
  obtain ⟨pw8, hxw8, plw8, psw8, paw8, pcw8⟩ : ∃ blk, x11 = .pointer (some ⟨blk, 0, none⟩) ∧ w6.heap.size ≤ blk ∧ blk < w8.heap.size ∧ w8.cell? ⟨blk, 0, none⟩ = some (.int .i64 0) ∧ w8.cell? ⟨blk, 1, none⟩ = some (.int .i64 zd) := hall 9 11 rfl
  subst hxw8
  clear hall hf
  have H8 := Lib.hid hbw8
  clear hbw8
  have v0 := ((bcell H8.out).1 _ _ lw3).trans r0
  have v1 := ((bcell H8.out).1 _ _ lw3).trans r1
  have v2 := ((bcell H8.out).1 _ _ lw4).trans r2
  have v3 := ((bcell H8.out).1 _ _ lw4).trans r3
  have H8W := Lib.hid (H6W.out.trans (H8.out.mono H6W.out.size))
  obtain ⟨j0, j1, j2, j3, j4, j5⟩ := HC.out w8 (H6.out.trans (H8.out.mono H6.out.size))
  clear r0 r1 r2 r3
  go_upto_region 12 with (go_at_call 37; (refine Calls.mono (HRG2.out _ H8W.out) ?_); rintro e w9 ⟨rfl, hb9⟩; have H9 := Lib.hid hb9; clear hb9)
  obtain ⟨wz, hwz⟩ : ∃ wz, w9.alloc (.cells #[.int .i64 mn, .int .i64 md] 30) = wz := ⟨_, rfl⟩
  have HZ : Hid (Below w8.heap.size w8 wz) := Lib.hid (by rw [← hwz]; exact H9.out.alloc H9.out.size _)
  have u0 : wz.cell? ⟨w9.heap.size, 0, none⟩ = some (.int .i64 mn) := by rw [← hwz]; simp [go_sem]
  have u1 : wz.cell? ⟨w9.heap.size, 1, none⟩ = some (.int .i64 md) := by rw [← hwz]; simp [go_sem]
  have l3 : pw3 < w8.heap.size := World.block_lt_of_cell? w8 _ v0
  have l4 : pw4 < w8.heap.size := World.block_lt_of_cell? w8 _ v2
  have l9 : w9.heap.size < wz.heap.size := World.block_lt_of_cell? wz _ u0
  have x0' := ((bcell HZ.out).1 _ _ l3).trans v0
  have x1' := ((bcell HZ.out).1 _ _ l3).trans v1
  have x2' := ((bcell HZ.out).1 _ _ l4).trans v2
  have x3' := ((bcell HZ.out).1 _ _ l4).trans v3
  have x4' := ((bcell HZ.out).1 _ _ psw8).trans paw8
  have k3 : pw3 < wz.heap.size := World.block_lt_of_cell? wz _ x0'
  have k4 : pw4 < wz.heap.size := World.block_lt_of_cell? wz _ x2'
  have k8 : pw8 < wz.heap.size := World.block_lt_of_cell? wz _ x4'
  have HZW := Lib.hid (H8W.out.trans (HZ.out.mono H8W.out.size))
  have HCZ := Lib.hid (fun wx (hy : Below wz.heap.size wz wx) => let h := HC.out wx (H6.out.trans ((H8.out.trans ((HZ.out.trans (hy.mono HZ.out.size)).mono H8.out.size)).mono H6.out.size)); And.intro (h.1) (And.intro (h.2.1) (And.intro (h.2.2.1) (And.intro (h.2.2.2.1) (And.intro (h.2.2.2.2.1) (And.intro (h.2.2.2.2.2) (And.intro (((bcell hy).1 _ _ k3).trans x0') (And.intro (((bcell hy).1 _ _ k3).trans x1') (And.intro (((bcell hy).1 _ _ k4).trans x2') (And.intro (((bcell hy).1 _ _ k4).trans x3') (And.intro (((bcell hy).1 _ _ k8).trans x4') (And.intro (((bcell hy).1 _ _ l9).trans u0) (((bcell hy).1 _ _ l9).trans u1)))))))))))))
  rw [hwz]
  clear hwz v0 v1 v2 v3 x0' x1' x2' x3' x4' u0 u1 paw8 pcw8 j0 j1 j2 j3 j4 j5
  refine wp_region_rkg [73, 74, 75, 76, 77, 78, 79, 80, 81, 82, 83, 84, 85, 86, 87, 88, 89, 90, 91, 92, 93, 94, 95, 96, 97, 98, 99, 100, 101, 102, 103, 104, 4] [rEq (.int .i64 0), rEq (.bool true), rEq (.bool true), rEq (.int .i64 0), rEq (.bool true), rEq (.bool true), rEq (.bool true), rEq (.int .i64 p), rEq (.int .i64 p), rEq (.bool true), rEq (.bool true), rEq (.bool true), rEq (.agg #[.int .i64 mn, .int .i64 md]), rEq (.agg #[.int .i64 mn, .int .i64 md]), rEq (.bool true), rEq (.bool true), rEq (.bool true), rEq (.agg #[.int .i64 sn, .int .i64 sd]), rEq (.agg #[.int .i64 s, .int .i64 ww, .int .i64 t, .int .i64 en]), rEq (.agg #[.slice A n c, .int .i64 S]), rEq (.agg #[.int .i64 sn, .int .i64 sd]), rEq (.bool true), rEq (.bool true), rEq (.bool true), rEq (.int .i64 0), rEq (.bool true), rEq (.bool true), rEq (.bool true), rEq (.pointer (some ⟨pw8, 0, none⟩)), rEq (.int .i64 0), rEq (.bool true), rEq (.bool true), rEq (.bool true)] (by kernel_rfl) (by kernel_rfl) (by decide) rfl ⟨?_, ?_, ?_, ?_, ?_, ?_, ?_, ?_, ?_, ?_, ?_, ?_, ?_, ?_, ?_, ?_, ?_, ?_, ?_, ?_, ?_, ?_, ?_, ?_, ?_, ?_, ?_, ?_, ?_, ?_, ?_, ?_, ?_, trivial⟩ ?_
  · intro ac wx hf hb hd -- 0
    refine .inl ⟨wanted_free rfl, ?_⟩
    have f7 : ac.tmps[7]?.getD undef = .int .i64 0 := by rw [← Array.getD_eq_getD_getElem?]; exact hf.same 7 (by decide)
    exact rstep_eq (by simp [execOp, Act.eval, f7, go_sem]) rfl
  · intro ac wx hf hb hd -- 1
    refine .inl ⟨wanted_free rfl, ?_⟩
    have d0 : ac.tmps[73]?.getD undef = .int .i64 0 := by rw [← Array.getD_eq_getD_getElem?]; exact hd 0 (by decide)
    exact rstep_eq (by simp [execOp, Act.eval, d0, go_sem]) rfl
  · intro ac wx hf hb hd -- 2
    refine .inl ⟨wanted_free rfl, ?_⟩
    have d1 : ac.tmps[74]?.getD undef = .bool true := by rw [← Array.getD_eq_getD_getElem?]; exact hd 1 (by decide)
    exact rstep_eq (by simp [execOp, Act.eval, d1, go_sem]) rfl
  · intro ac wx hf hb hd -- 3
    refine .inl ⟨wanted_by (j := 2) (d := 75) (b := true) rfl rfl (hd 2 (by decide)), ?_⟩
    have f9 : ac.tmps[9]?.getD undef = .int .i64 0 := by rw [← Array.getD_eq_getD_getElem?]; exact hf.same 9 (by decide)
    exact rstep_eq (by simp [execOp, Act.eval, f9, go_sem]) rfl
  · intro ac wx hf hb hd -- 4
    refine .inl ⟨wanted_by (j := 2) (d := 75) (b := true) rfl rfl (hd 2 (by decide)), ?_⟩
    have d3 : ac.tmps[76]?.getD undef = .int .i64 0 := by rw [← Array.getD_eq_getD_getElem?]; exact hd 3 (by decide)
    exact rstep_eq (by simp [execOp, Act.eval, d3, go_sem]) rfl
  · intro ac wx hf hb hd -- 5
    refine .inl ⟨wanted_free rfl, ?_⟩
    have d2 : ac.tmps[75]?.getD undef = .bool true := by rw [← Array.getD_eq_getD_getElem?]; exact hd 2 (by decide)
    have d4 : ac.tmps[77]?.getD undef = .bool true := by rw [← Array.getD_eq_getD_getElem?]; exact hd 4 (by decide)
    exact rstep_eq (by simp [execOp, Act.eval, d2, d4, go_sem]) rfl
  · intro ac wx hf hb hd -- 6
    refine .inl ⟨wanted_free rfl, ?_⟩
    have d5 : ac.tmps[78]?.getD undef = .bool true := by rw [← Array.getD_eq_getD_getElem?]; exact hd 5 (by decide)
    exact rstep_eq (by simp [execOp, Act.eval, d5, go_sem]) rfl
  · intro ac wx hf hb hd -- 7
    refine .inl ⟨wanted_by (j := 6) (d := 79) (b := true) rfl rfl (hd 6 (by decide)), ?_⟩
    have f5 : ac.tmps[5]?.getD undef = .int .i64 p := by rw [← Array.getD_eq_getD_getElem?]; exact hf.same 5 (by decide)
    exact rstep_eq (by simp [execOp, Act.eval, f5, go_sem]) rfl
  · intro ac wx hf hb hd -- 8
    refine .inl ⟨wanted_by (j := 6) (d := 79) (b := true) rfl rfl (hd 6 (by decide)), ?_⟩
    have f13 : ac.tmps[13]?.getD undef = .int .i64 p := by rw [← Array.getD_eq_getD_getElem?]; exact hf.same 13 (by decide)
    exact rstep_eq (by simp [execOp, Act.eval, f13, go_sem]) rfl
  · intro ac wx hf hb hd -- 9
    refine .inl ⟨wanted_by (j := 6) (d := 79) (b := true) rfl rfl (hd 6 (by decide)), ?_⟩
    have d7 : ac.tmps[80]?.getD undef = .int .i64 p := by rw [← Array.getD_eq_getD_getElem?]; exact hd 7 (by decide)
    have d8 : ac.tmps[81]?.getD undef = .int .i64 p := by rw [← Array.getD_eq_getD_getElem?]; exact hd 8 (by decide)
    exact rstep_eq (by simp [execOp, Act.eval, d7, d8, go_sem]) rfl
  · intro ac wx hf hb hd -- 10
    refine .inl ⟨wanted_free rfl, ?_⟩
    have d6 : ac.tmps[79]?.getD undef = .bool true := by rw [← Array.getD_eq_getD_getElem?]; exact hd 6 (by decide)
    have d9 : ac.tmps[82]?.getD undef = .bool true := by rw [← Array.getD_eq_getD_getElem?]; exact hd 9 (by decide)
    exact rstep_eq (by simp [execOp, Act.eval, d6, d9, go_sem]) rfl
  · intro ac wx hf hb hd -- 11
    refine .inl ⟨wanted_free rfl, ?_⟩
    have d10 : ac.tmps[83]?.getD undef = .bool true := by rw [← Array.getD_eq_getD_getElem?]; exact hd 10 (by decide)
    exact rstep_eq (by simp [execOp, Act.eval, d10, go_sem]) rfl
  · intro ac wx hf hb hd -- 12
    refine .inl ⟨wanted_by (j := 11) (d := 84) (b := true) rfl rfl (hd 11 (by decide)), ?_⟩
    have f6 : ac.tmps[6]?.getD undef = .pointer (some ⟨pw3, 0, none⟩) := by rw [← Array.getD_eq_getD_getElem?]; exact hf.same 6 (by decide)
    obtain ⟨c0, c1, c2, c3, c4, c5, ya, yb, yc, yd, ye, yf, yg⟩ := HCZ.out wx hb
    exact rstep_eq (by simp [execOp, Act.eval, f6, ya, yb, go_sem]) rfl
  · intro ac wx hf hb hd -- 13
    refine .inl ⟨wanted_by (j := 11) (d := 84) (b := true) rfl rfl (hd 11 (by decide)), ?_⟩
    have f14 : ac.tmps[14]?.getD undef = .pointer (some ⟨w9.heap.size, 0, none⟩) := by rw [← Array.getD_eq_getD_getElem?]; exact hf.same 14 (by decide)
    obtain ⟨c0, c1, c2, c3, c4, c5, ya, yb, yc, yd, ye, yf, yg⟩ := HCZ.out wx hb
    exact rstep_eq (by simp [execOp, Act.eval, f14, yf, yg, go_sem]) rfl
  · intro ac wx hf hb hd -- 14
    refine .inl ⟨wanted_by (j := 11) (d := 84) (b := true) rfl rfl (hd 11 (by decide)), ?_⟩
    have d12 : ac.tmps[85]?.getD undef = .agg #[.int .i64 mn, .int .i64 md] := by rw [← Array.getD_eq_getD_getElem?]; exact hd 12 (by decide)
    have d13 : ac.tmps[86]?.getD undef = .agg #[.int .i64 mn, .int .i64 md] := by rw [← Array.getD_eq_getD_getElem?]; exact hd 13 (by decide)
    exact rstep_eq (by simp [execOp, Act.eval, d12, d13, go_sem]) rfl
  · intro ac wx hf hb hd -- 15
    refine .inl ⟨wanted_free rfl, ?_⟩
    have d11 : ac.tmps[84]?.getD undef = .bool true := by rw [← Array.getD_eq_getD_getElem?]; exact hd 11 (by decide)
    have d14 : ac.tmps[87]?.getD undef = .bool true := by rw [← Array.getD_eq_getD_getElem?]; exact hd 14 (by decide)
    exact rstep_eq (by simp [execOp, Act.eval, d11, d14, go_sem]) rfl
  · intro ac wx hf hb hd -- 16
    refine .inl ⟨wanted_free rfl, ?_⟩
    have d15 : ac.tmps[88]?.getD undef = .bool true := by rw [← Array.getD_eq_getD_getElem?]; exact hd 15 (by decide)
    exact rstep_eq (by simp [execOp, Act.eval, d15, go_sem]) rfl
  · intro ac wx hf hb hd -- 17
    refine .inl ⟨wanted_by (j := 16) (d := 89) (b := true) rfl rfl (hd 16 (by decide)), ?_⟩
    have f8 : ac.tmps[8]?.getD undef = .pointer (some ⟨pw4, 0, none⟩) := by rw [← Array.getD_eq_getD_getElem?]; exact hf.same 8 (by decide)
    obtain ⟨c0, c1, c2, c3, c4, c5, ya, yb, yc, yd, ye, yf, yg⟩ := HCZ.out wx hb
    exact rstep_eq (by simp [execOp, Act.eval, f8, yc, yd, go_sem]) rfl
  · intro ac wx hf hb hd -- 18
    refine .inl ⟨wanted_by (j := 16) (d := 89) (b := true) rfl rfl (hd 16 (by decide)), ?_⟩
    have f2 : ac.tmps[2]?.getD undef = .pointer (some ⟨w.heap.size, 0, none⟩) := by rw [← Array.getD_eq_getD_getElem?]; exact hf.same 2 (by decide)
    obtain ⟨c0, c1, c2, c3, c4, c5, ya, yb, yc, yd, ye, yf, yg⟩ := HCZ.out wx hb
    exact rstep_eq (by simp [execOp, Act.eval, f2, c0, c1, c2, c3, go_sem]) rfl
  · intro ac wx hf hb hd -- 19
    refine .inl ⟨wanted_by (j := 16) (d := 89) (b := true) rfl rfl (hd 16 (by decide)), ?_⟩
    have f3 : ac.tmps[3]?.getD undef = .pointer (some ⟨w.heap.size + 1, 0, none⟩) := by rw [← Array.getD_eq_getD_getElem?]; exact hf.same 3 (by decide)
    obtain ⟨c0, c1, c2, c3, c4, c5, ya, yb, yc, yd, ye, yf, yg⟩ := HCZ.out wx hb
    exact rstep_eq (by simp [execOp, Act.eval, f3, c4, c5, go_sem]) rfl
  · intro ac wx hf hb hd -- 20
    refine .inl ⟨wanted_by (j := 16) (d := 89) (b := true) rfl rfl (hd 16 (by decide)), ?_⟩
    have d18 : ac.tmps[91]?.getD undef = .agg #[.int .i64 s, .int .i64 ww, .int .i64 t, .int .i64 en] := by rw [← Array.getD_eq_getD_getElem?]; exact hd 18 (by decide)
    have d19 : ac.tmps[92]?.getD undef = .agg #[.slice A n c, .int .i64 S] := by rw [← Array.getD_eq_getD_getElem?]; exact hd 19 (by decide)
    refine rstep_call (f := 38) (args := #[.agg #[.int .i64 s, .int .i64 ww, .int .i64 t, .int .i64 en], .agg #[.slice A n c, .int .i64 S]]) (by simp [Act.eval, d18, d19, go_sem]) ?_ rfl
    exact HRS2.out wx (HZW.out.trans (hb.mono HZW.out.size))
  · intro ac wx hf hb hd -- 21
    refine .inl ⟨wanted_by (j := 16) (d := 89) (b := true) rfl rfl (hd 16 (by decide)), ?_⟩
    have d17 : ac.tmps[90]?.getD undef = .agg #[.int .i64 sn, .int .i64 sd] := by rw [← Array.getD_eq_getD_getElem?]; exact hd 17 (by decide)
    have d20 : ac.tmps[93]?.getD undef = .agg #[.int .i64 sn, .int .i64 sd] := by rw [← Array.getD_eq_getD_getElem?]; exact hd 20 (by decide)
    exact rstep_eq (by simp [execOp, Act.eval, d17, d20, go_sem]) rfl
  · intro ac wx hf hb hd -- 22
    refine .inl ⟨wanted_free rfl, ?_⟩
    have d16 : ac.tmps[89]?.getD undef = .bool true := by rw [← Array.getD_eq_getD_getElem?]; exact hd 16 (by decide)
    have d21 : ac.tmps[94]?.getD undef = .bool true := by rw [← Array.getD_eq_getD_getElem?]; exact hd 21 (by decide)
    exact rstep_eq (by simp [execOp, Act.eval, d16, d21, go_sem]) rfl
  · intro ac wx hf hb hd -- 23
    refine .inl ⟨wanted_free rfl, ?_⟩
    have d22 : ac.tmps[95]?.getD undef = .bool true := by rw [← Array.getD_eq_getD_getElem?]; exact hd 22 (by decide)
    exact rstep_eq (by simp [execOp, Act.eval, d22, go_sem]) rfl
  · intro ac wx hf hb hd -- 24
    refine .inl ⟨wanted_by (j := 23) (d := 96) (b := true) rfl rfl (hd 23 (by decide)), ?_⟩
    have f12 : ac.tmps[12]?.getD undef = .int .i64 0 := by rw [← Array.getD_eq_getD_getElem?]; exact hf.same 12 (by decide)
    exact rstep_eq (by simp [execOp, Act.eval, f12, go_sem]) rfl
  · intro ac wx hf hb hd -- 25
    refine .inl ⟨wanted_by (j := 23) (d := 96) (b := true) rfl rfl (hd 23 (by decide)), ?_⟩
    have d24 : ac.tmps[97]?.getD undef = .int .i64 0 := by rw [← Array.getD_eq_getD_getElem?]; exact hd 24 (by decide)
    exact rstep_eq (by simp [execOp, Act.eval, d24, go_sem]) rfl
  · intro ac wx hf hb hd -- 26
    refine .inl ⟨wanted_free rfl, ?_⟩
    have d23 : ac.tmps[96]?.getD undef = .bool true := by rw [← Array.getD_eq_getD_getElem?]; exact hd 23 (by decide)
    have d25 : ac.tmps[98]?.getD undef = .bool true := by rw [← Array.getD_eq_getD_getElem?]; exact hd 25 (by decide)
    exact rstep_eq (by simp [execOp, Act.eval, d23, d25, go_sem]) rfl
  · intro ac wx hf hb hd -- 27
    refine .inl ⟨wanted_free rfl, ?_⟩
    have d26 : ac.tmps[99]?.getD undef = .bool true := by rw [← Array.getD_eq_getD_getElem?]; exact hd 26 (by decide)
    exact rstep_eq (by simp [execOp, Act.eval, d26, go_sem]) rfl
  · intro ac wx hf hb hd -- 28
    refine .inl ⟨wanted_by (j := 27) (d := 100) (b := true) rfl rfl (hd 27 (by decide)), ?_⟩
    have f11 : ac.tmps[11]?.getD undef = .pointer (some ⟨pw8, 0, none⟩) := by rw [← Array.getD_eq_getD_getElem?]; exact hf.same 11 (by decide)
    exact rstep_eq (by simp [execOp, Act.eval, f11, go_sem]) rfl
  · intro ac wx hf hb hd -- 29
    refine .inl ⟨wanted_by (j := 27) (d := 100) (b := true) rfl rfl (hd 27 (by decide)), ?_⟩
    have d28 : ac.tmps[101]?.getD undef = .pointer (some ⟨pw8, 0, none⟩) := by rw [← Array.getD_eq_getD_getElem?]; exact hd 28 (by decide)
    obtain ⟨c0, c1, c2, c3, c4, c5, ya, yb, yc, yd, ye, yf, yg⟩ := HCZ.out wx hb
    exact rstep_eq (by simp [execOp, Act.eval, d28, ye, go_sem]) rfl
  · intro ac wx hf hb hd -- 30
    refine .inl ⟨wanted_by (j := 27) (d := 100) (b := true) rfl rfl (hd 27 (by decide)), ?_⟩
    have d29 : ac.tmps[102]?.getD undef = .int .i64 0 := by rw [← Array.getD_eq_getD_getElem?]; exact hd 29 (by decide)
    exact rstep_eq (by simp [execOp, Act.eval, d29, go_sem]) rfl
  · intro ac wx hf hb hd -- 31
    refine .inl ⟨wanted_free rfl, ?_⟩
    have d27 : ac.tmps[100]?.getD undef = .bool true := by rw [← Array.getD_eq_getD_getElem?]; exact hd 27 (by decide)
    have d30 : ac.tmps[103]?.getD undef = .bool true := by rw [← Array.getD_eq_getD_getElem?]; exact hd 30 (by decide)
    exact rstep_eq (by simp [execOp, Act.eval, d27, d30, go_sem]) rfl
  · intro ac wx hf hb hd -- 32
    refine .inl ⟨wanted_free rfl, ?_⟩
    have d31 : ac.tmps[104]?.getD undef = .bool true := by rw [← Array.getD_eq_getD_getElem?]; exact hd 31 (by decide)
    exact rstep_eq (by simp [execOp, Act.eval, d31, go_sem]) rfl
  rintro ⟨⟨ll⟩, df⟩ wx hf hb hall
  have hdf : df = [] := hf.defers
  subst hdf
  have hsz : ll.length = 105 := hf.size
  obtain ⟨x0, ll0, rfl, hsz0⟩ := cons_of hsz
  obtain ⟨x1, ll1, rfl, hsz1⟩ := cons_of hsz0
  obtain ⟨x2, ll2, rfl, hsz2⟩ := cons_of hsz1
  obtain ⟨x3, ll3, rfl, hsz3⟩ := cons_of hsz2
  obtain ⟨x4, ll4, rfl, hsz4⟩ := cons_of hsz3
  obtain ⟨x5, ll5, rfl, hsz5⟩ := cons_of hsz4
  obtain ⟨x6, ll6, rfl, hsz6⟩ := cons_of hsz5
  obtain ⟨x7, ll7, rfl, hsz7⟩ := cons_of hsz6
  obtain ⟨x8, ll8, rfl, hsz8⟩ := cons_of hsz7
  obtain ⟨x9, ll9, rfl, hsz9⟩ := cons_of hsz8
  obtain ⟨x10, ll10, rfl, hsz10⟩ := cons_of hsz9
  obtain ⟨x11, ll11, rfl, hsz11⟩ := cons_of hsz10
  obtain ⟨x12, ll12, rfl, hsz12⟩ := cons_of hsz11
  obtain ⟨x13, ll13, rfl, hsz13⟩ := cons_of hsz12
  obtain ⟨x14, ll14, rfl, hsz14⟩ := cons_of hsz13
  obtain ⟨x15, ll15, rfl, hsz15⟩ := cons_of hsz14
  obtain ⟨x16, ll16, rfl, hsz16⟩ := cons_of hsz15
  obtain ⟨x17, ll17, rfl, hsz17⟩ := cons_of hsz16
  obtain ⟨x18, ll18, rfl, hsz18⟩ := cons_of hsz17
  obtain ⟨x19, ll19, rfl, hsz19⟩ := cons_of hsz18
  obtain ⟨x20, ll20, rfl, hsz20⟩ := cons_of hsz19
  obtain ⟨x21, ll21, rfl, hsz21⟩ := cons_of hsz20
  obtain ⟨x22, ll22, rfl, hsz22⟩ := cons_of hsz21
  obtain ⟨x23, ll23, rfl, hsz23⟩ := cons_of hsz22
  obtain ⟨x24, ll24, rfl, hsz24⟩ := cons_of hsz23
  obtain ⟨x25, ll25, rfl, hsz25⟩ := cons_of hsz24
  obtain ⟨x26, ll26, rfl, hsz26⟩ := cons_of hsz25
  obtain ⟨x27, ll27, rfl, hsz27⟩ := cons_of hsz26
  obtain ⟨x28, ll28, rfl, hsz28⟩ := cons_of hsz27
  obtain ⟨x29, ll29, rfl, hsz29⟩ := cons_of hsz28
  obtain ⟨x30, ll30, rfl, hsz30⟩ := cons_of hsz29
  obtain ⟨x31, ll31, rfl, hsz31⟩ := cons_of hsz30
  obtain ⟨x32, ll32, rfl, hsz32⟩ := cons_of hsz31
  obtain ⟨x33, ll33, rfl, hsz33⟩ := cons_of hsz32
  obtain ⟨x34, ll34, rfl, hsz34⟩ := cons_of hsz33
  obtain ⟨x35, ll35, rfl, hsz35⟩ := cons_of hsz34
  obtain ⟨x36, ll36, rfl, hsz36⟩ := cons_of hsz35
  obtain ⟨x37, ll37, rfl, hsz37⟩ := cons_of hsz36
  obtain ⟨x38, ll38, rfl, hsz38⟩ := cons_of hsz37
  obtain ⟨x39, ll39, rfl, hsz39⟩ := cons_of hsz38
  obtain ⟨x40, ll40, rfl, hsz40⟩ := cons_of hsz39
  obtain ⟨x41, ll41, rfl, hsz41⟩ := cons_of hsz40
  obtain ⟨x42, ll42, rfl, hsz42⟩ := cons_of hsz41
  obtain ⟨x43, ll43, rfl, hsz43⟩ := cons_of hsz42
  obtain ⟨x44, ll44, rfl, hsz44⟩ := cons_of hsz43
  obtain ⟨x45, ll45, rfl, hsz45⟩ := cons_of hsz44
  obtain ⟨x46, ll46, rfl, hsz46⟩ := cons_of hsz45
  obtain ⟨x47, ll47, rfl, hsz47⟩ := cons_of hsz46
  obtain ⟨x48, ll48, rfl, hsz48⟩ := cons_of hsz47
  obtain ⟨x49, ll49, rfl, hsz49⟩ := cons_of hsz48
  obtain ⟨x50, ll50, rfl, hsz50⟩ := cons_of hsz49
  obtain ⟨x51, ll51, rfl, hsz51⟩ := cons_of hsz50
  obtain ⟨x52, ll52, rfl, hsz52⟩ := cons_of hsz51
  obtain ⟨x53, ll53, rfl, hsz53⟩ := cons_of hsz52
  obtain ⟨x54, ll54, rfl, hsz54⟩ := cons_of hsz53
  obtain ⟨x55, ll55, rfl, hsz55⟩ := cons_of hsz54
  obtain ⟨x56, ll56, rfl, hsz56⟩ := cons_of hsz55
  obtain ⟨x57, ll57, rfl, hsz57⟩ := cons_of hsz56
  obtain ⟨x58, ll58, rfl, hsz58⟩ := cons_of hsz57
  obtain ⟨x59, ll59, rfl, hsz59⟩ := cons_of hsz58
  obtain ⟨x60, ll60, rfl, hsz60⟩ := cons_of hsz59
  obtain ⟨x61, ll61, rfl, hsz61⟩ := cons_of hsz60
  obtain ⟨x62, ll62, rfl, hsz62⟩ := cons_of hsz61
  obtain ⟨x63, ll63, rfl, hsz63⟩ := cons_of hsz62
  obtain ⟨x64, ll64, rfl, hsz64⟩ := cons_of hsz63
  obtain ⟨x65, ll65, rfl, hsz65⟩ := cons_of hsz64
  obtain ⟨x66, ll66, rfl, hsz66⟩ := cons_of hsz65
  obtain ⟨x67, ll67, rfl, hsz67⟩ := cons_of hsz66
  obtain ⟨x68, ll68, rfl, hsz68⟩ := cons_of hsz67
  obtain ⟨x69, ll69, rfl, hsz69⟩ := cons_of hsz68
  obtain ⟨x70, ll70, rfl, hsz70⟩ := cons_of hsz69
  obtain ⟨x71, ll71, rfl, hsz71⟩ := cons_of hsz70
  obtain ⟨x72, ll72, rfl, hsz72⟩ := cons_of hsz71
  obtain ⟨x73, ll73, rfl, hsz73⟩ := cons_of hsz72
  obtain ⟨x74, ll74, rfl, hsz74⟩ := cons_of hsz73
  obtain ⟨x75, ll75, rfl, hsz75⟩ := cons_of hsz74
  obtain ⟨x76, ll76, rfl, hsz76⟩ := cons_of hsz75
  obtain ⟨x77, ll77, rfl, hsz77⟩ := cons_of hsz76
  obtain ⟨x78, ll78, rfl, hsz78⟩ := cons_of hsz77
  obtain ⟨x79, ll79, rfl, hsz79⟩ := cons_of hsz78
  obtain ⟨x80, ll80, rfl, hsz80⟩ := cons_of hsz79
  obtain ⟨x81, ll81, rfl, hsz81⟩ := cons_of hsz80
  obtain ⟨x82, ll82, rfl, hsz82⟩ := cons_of hsz81
  obtain ⟨x83, ll83, rfl, hsz83⟩ := cons_of hsz82
  obtain ⟨x84, ll84, rfl, hsz84⟩ := cons_of hsz83
  obtain ⟨x85, ll85, rfl, hsz85⟩ := cons_of hsz84
  obtain ⟨x86, ll86, rfl, hsz86⟩ := cons_of hsz85
  obtain ⟨x87, ll87, rfl, hsz87⟩ := cons_of hsz86
  obtain ⟨x88, ll88, rfl, hsz88⟩ := cons_of hsz87
  obtain ⟨x89, ll89, rfl, hsz89⟩ := cons_of hsz88
  obtain ⟨x90, ll90, rfl, hsz90⟩ := cons_of hsz89
  obtain ⟨x91, ll91, rfl, hsz91⟩ := cons_of hsz90
  obtain ⟨x92, ll92, rfl, hsz92⟩ := cons_of hsz91
  obtain ⟨x93, ll93, rfl, hsz93⟩ := cons_of hsz92
  obtain ⟨x94, ll94, rfl, hsz94⟩ := cons_of hsz93
  obtain ⟨x95, ll95, rfl, hsz95⟩ := cons_of hsz94
  obtain ⟨x96, ll96, rfl, hsz96⟩ := cons_of hsz95
  obtain ⟨x97, ll97, rfl, hsz97⟩ := cons_of hsz96
  obtain ⟨x98, ll98, rfl, hsz98⟩ := cons_of hsz97
  obtain ⟨x99, ll99, rfl, hsz99⟩ := cons_of hsz98
  obtain ⟨x100, ll100, rfl, hsz100⟩ := cons_of hsz99
  obtain ⟨x101, ll101, rfl, hsz101⟩ := cons_of hsz100
  obtain ⟨x102, ll102, rfl, hsz102⟩ := cons_of hsz101
  obtain ⟨x103, ll103, rfl, hsz103⟩ := cons_of hsz102
  obtain ⟨x104, ll104, rfl, hsz104⟩ := cons_of hsz103
  obtain rfl := List.eq_nil_of_length_eq_zero hsz104
  obtain rfl : x2 = .pointer (some ⟨w.heap.size, 0, none⟩) := hf.same 2 (by decide)
  obtain rfl : x3 = .pointer (some ⟨w.heap.size + 1, 0, none⟩) := hf.same 3 (by decide)
  obtain rfl : x4 = .bool true := hall 32 4 rfl
  obtain rfl : x5 = .int .i64 p := hf.same 5 (by decide)
  obtain rfl : x6 = .pointer (some ⟨pw3, 0, none⟩) := hf.same 6 (by decide)
  obtain rfl : x7 = .int .i64 0 := hf.same 7 (by decide)
  obtain rfl : x8 = .pointer (some ⟨pw4, 0, none⟩) := hf.same 8 (by decide)
  obtain rfl : x9 = .int .i64 0 := hf.same 9 (by decide)
  obtain rfl : x11 = .pointer (some ⟨pw8, 0, none⟩) := hf.same 11 (by decide)
  obtain rfl : x12 = .int .i64 0 := hf.same 12 (by decide)
  obtain rfl : x13 = .int .i64 p := hf.same 13 (by decide)
  obtain rfl : x14 = .pointer (some ⟨w9.heap.size, 0, none⟩) := hf.same 14 (by decide)
  obtain rfl : x73 = .int .i64 0 := hall 0 73 rfl
  obtain rfl : x74 = .bool true := hall 1 74 rfl
  obtain rfl : x75 = .bool true := hall 2 75 rfl
  obtain rfl : x76 = .int .i64 0 := hall 3 76 rfl
  obtain rfl : x77 = .bool true := hall 4 77 rfl
  obtain rfl : x78 = .bool true := hall 5 78 rfl
  obtain rfl : x79 = .bool true := hall 6 79 rfl
  obtain rfl : x80 = .int .i64 p := hall 7 80 rfl
  obtain rfl : x81 = .int .i64 p := hall 8 81 rfl
  obtain rfl : x82 = .bool true := hall 9 82 rfl
  obtain rfl : x83 = .bool true := hall 10 83 rfl
  obtain rfl : x84 = .bool true := hall 11 84 rfl
  obtain rfl : x85 = .agg #[.int .i64 mn, .int .i64 md] := hall 12 85 rfl
  obtain rfl : x86 = .agg #[.int .i64 mn, .int .i64 md] := hall 13 86 rfl
  obtain rfl : x87 = .bool true := hall 14 87 rfl
  obtain rfl : x88 = .bool true := hall 15 88 rfl
  obtain rfl : x89 = .bool true := hall 16 89 rfl
  obtain rfl : x90 = .agg #[.int .i64 sn, .int .i64 sd] := hall 17 90 rfl
  obtain rfl : x91 = .agg #[.int .i64 s, .int .i64 ww, .int .i64 t, .int .i64 en] := hall 18 91 rfl
  obtain rfl : x92 = .agg #[.slice A n c, .int .i64 S] := hall 19 92 rfl
  obtain rfl : x93 = .agg #[.int .i64 sn, .int .i64 sd] := hall 20 93 rfl
  obtain rfl : x94 = .bool true := hall 21 94 rfl
  obtain rfl : x95 = .bool true := hall 22 95 rfl
  obtain rfl : x96 = .bool true := hall 23 96 rfl
  obtain rfl : x97 = .int .i64 0 := hall 24 97 rfl
  obtain rfl : x98 = .bool true := hall 25 98 rfl
  obtain rfl : x99 = .bool true := hall 26 99 rfl
  obtain rfl : x100 = .bool true := hall 27 100 rfl
  obtain rfl : x101 = .pointer (some ⟨pw8, 0, none⟩) := hall 28 101 rfl
  obtain rfl : x102 = .int .i64 0 := hall 29 102 rfl
  obtain rfl : x103 = .bool true := hall 30 103 rfl
  obtain rfl : x104 = .bool true := hall 31 104 rfl
  clear hall hf
  go_wp2
  go_ret
  exact ⟨rfl, HZW.out.trans (hb.mono HZW.out.size)⟩
end Go.Proofs.Ytageiimcmnebmaa
