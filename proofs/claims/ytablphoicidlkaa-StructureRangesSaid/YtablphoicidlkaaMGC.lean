/- Two fractions that are nothing. -/
import Derived.Test.YtablphoicidlkaaCF
import Derived.Test.YtablphoicidlkaaRH
namespace Go.Proofs.Ytablphoicidlkaa
open Go.RowKit

set_option maxHeartbeats 2000000 in
theorem none_two {b c : Nat} (w : World) (h0 : w.cell? ⟨b, 0, none⟩ = some (.int .i64 0)) (h1 : w.cell? ⟨b, 1, none⟩ = some (.int .i64 0)) (h2 : w.cell? ⟨b, 2, none⟩ = some (.int .i64 0)) (h3 : w.cell? ⟨b, 3, none⟩ = some (.int .i64 0)) :
    Calls Try.prog 27 #[.slice (some ⟨b, 0, none⟩) 2 c] w fun e w' => e = .returned (.bool true) ∧ w = w' := by
  go_enter Try.func27, Try.ntmps27
  go_wp2
  go_loopw [3] (fun i wr => (i = .int .i64 0 ∨ i = .int .i64 1 ∨ i = .int .i64 2) ∧ wr = w) (fun i _ => 2 - (intOf i).toNat)
  case atStart => exact ⟨.inl rfl, rfl⟩
  case round =>
    obtain ⟨hcase, rfl⟩ := hrel
    rcases hcase with rfl | rfl | rfl
    · go_wp2
      exact ⟨by simp, by simp [intOf]⟩
    · go_wp2
      exact ⟨by simp, by simp [intOf]⟩
    · go_wp2
      go_ret
      exact ⟨rfl, rfl⟩
end Go.Proofs.Ytablphoicidlkaa
namespace Go.Proofs.Ytablphoicidlkaa
open Go.RowKit

/-- A pointer to a fraction that is nothing yet. -/
def rPtr0 (B : Nat) : RK := ⟨fun v w => ∃ blk, v = .pointer (some ⟨blk, 0, none⟩) ∧ B ≤ blk ∧ blk < w.heap.size ∧ w.cell? ⟨blk, 0, none⟩ = some (.int .i64 0) ∧ w.cell? ⟨blk, 1, none⟩ = some (.int .i64 0) ∧ w.frozen? ⟨blk, 0, none⟩ = false ∧ w.frozen? ⟨blk, 1, none⟩ = false, fun _ _ _ hb ⟨blk, e, h0, h1, h2, h3, h4, h5⟩ => ⟨blk, e, h0, Nat.lt_of_lt_of_le h1 hb.size, ((bcell hb).1 _ _ h1).trans h2, ((bcell hb).1 _ _ h1).trans h3, ((bcell hb).2 _ _ h1).trans h4, ((bcell hb).2 _ _ h1).trans h5⟩⟩
/-- A pointer to a fraction. -/
def rPtr1 (B : Nat) (nn de : Int) : RK := ⟨fun v w => ∃ blk, v = .pointer (some ⟨blk, 0, none⟩) ∧ B ≤ blk ∧ blk < w.heap.size ∧ w.cell? ⟨blk, 0, none⟩ = some (.int .i64 nn) ∧ w.cell? ⟨blk, 1, none⟩ = some (.int .i64 de), fun _ _ _ hb ⟨blk, e, h0, h1, h2, h3⟩ => ⟨blk, e, h0, Nat.lt_of_lt_of_le h1 hb.size, ((bcell hb).1 _ _ h1).trans h2, ((bcell hb).1 _ _ h1).trans h3⟩⟩
theorem rstep_alloc {P : Program} {Q : Exit → Act → World → Prop} {L : List RK} {i : Nat} {o : Oper} {a : Act} {w : World} {B : Nat} (hB : B ≤ w.heap.size) (hr : (execOp a.eval o).run P w = .ok (.value (.pointer (some ⟨w.heap.size, 0, none⟩))) (w.alloc (.cells #[.int .i64 0, .int .i64 0] 30))) (hL : L.getD i rAny = rPtr0 B) :
    o.wp P a w (fun a' w' => ∃ v, a' = a.put o.dst v ∧ Below w.heap.size w w' ∧ rkF L i v w') Q := by
  unfold Oper.wp
  rw [hr]
  exact ⟨_, rfl, (Below.refl _ _).alloc (Nat.le_refl _) _, by unfold rkF; rw [hL]; exact ⟨_, rfl, hB, by simp, by simp [go_sem], by simp [go_sem], by simp [go_sem], by simp [go_sem]⟩⟩
theorem rstep_copied {Q : Exit → Act → World → Prop} {L : List RK} {i : Nat} {o : Oper} {a : Act} {w : World} {A : Option Addr} {n c : Nat} {S : Int} {l : List Pt} (hn : n ≤ 1000000) (hrow : PtRow w A n l) (hr : (execOp a.eval o).run Try.prog w = .ok (.enter 22 #[buV A n c S]) w) (hL : L.getD i rAny = rBur 0 l n S) :
    o.wp Try.prog a w (fun a' w' => ∃ v, a' = a.put o.dst v ∧ Below w.heap.size w w' ∧ rkF L i v w') Q := by
  unfold Oper.wp
  rw [hr]
  refine (copied_any hn w hrow).mono fun e w' ⟨A', c', he, hp, hb⟩ => ?_
  subst he
  exact ⟨_, rfl, hb, by unfold rkF; rw [hL]; exact ⟨A', c', rfl, hp, fun _ _ _ => Nat.zero_le _⟩⟩
set_option maxHeartbeats 8000000 in
set_option maxRecDepth 20000 in
theorem forces_bad {s ww t en x : Int} {A : Option Addr} {n c : Nat} {S : Int} {l : List Pt} (hn : n ≤ 12) {eh : Int}
    (SH : ∀ A c wx, PtRow wx A n l → Calls Try.prog 30 #[.agg #[.int .i64 s, .int .i64 ww, .int .i64 t, .int .i64 en], buV A n c S, .int .i64 x] wx fun e w' => e = .returned (.tuple #[.agg #[.int .i64 0, .int .i64 0], .int .i64 eh]) ∧ Below wx.heap.size wx w')
    (MO : ∀ A c wx, PtRow wx A n l → Calls Try.prog 31 #[.agg #[.int .i64 s, .int .i64 ww, .int .i64 t, .int .i64 en], buV A n c S, .int .i64 x] wx fun e w' => e = .returned (.tuple #[.agg #[.int .i64 0, .int .i64 0], .int .i64 eh]) ∧ Below wx.heap.size wx w')
    (hne : eh ≠ 0) (w : World) (CB : ∀ wx, Below w.heap.size w wx → Calls Try.prog 23 #[.agg #[.int .i64 s, .int .i64 ww, .int .i64 t, .int .i64 en], buV A n c S] wx fun e w' => e = .returned (.int .i64 eh) ∧ Below wx.heap.size wx w')
    (h : PtRow w A n l) :
    Calls Try.prog 4 #[.agg #[.int .i64 s, .int .i64 ww, .int .i64 t, .int .i64 en], buV A n c S, .int .i64 x] w fun e w' => e = .returned (.bool true) ∧ Below w.heap.size w w' := by
  have HR := Lib.hid h
  have HSH := Lib.hid SH
  have HMO := Lib.hid MO
  have AW := fun wx => Lib.hid (awake_any wx)
  have FE := Lib.hid (fun wx => few_any (A := A) (n := n) (c := c) (S := S) wx)
  have hd : decide (n ≤ 12) = true := decide_eq_true hn
  rw [hd] at FE
  clear h SH MO hd
  unfold buV at *
  go_enter Try.func4, Try.ntmps4
  go_upto_region 1 with fail
  obtain ⟨w0, hw0⟩ : ∃ w0, ((w.alloc (.cells #[.int .i64 s, .int .i64 ww, .int .i64 t, .int .i64 en] 23)).alloc (.cells #[.slice A n c, .int .i64 S] 26)) = w0 := ⟨_, rfl⟩
  have HB0 : Hid (Below w.heap.size w w0) := Lib.hid (by rw [← hw0]; exact (((Below.refl _ _).alloc (Nat.le_refl _) _).alloc (by simp; try omega) _))
  have HC := Lib.hid (fun wx (hb : Below w0.heap.size w0 wx) => (show wx.cell? ⟨w.heap.size, 0, none⟩ = some (.int .i64 s) ∧ wx.cell? ⟨w.heap.size, 1, none⟩ = some (.int .i64 ww) ∧ wx.cell? ⟨w.heap.size, 2, none⟩ = some (.int .i64 t) ∧ wx.cell? ⟨w.heap.size, 3, none⟩ = some (.int .i64 en) ∧ wx.cell? ⟨w.heap.size + 1, 0, none⟩ = some (.slice A n c) ∧ wx.cell? ⟨w.heap.size + 1, 1, none⟩ = some (.int .i64 S) from by
    subst hw0
    obtain ⟨k, kf⟩ := bcell hb
    exact ⟨(k _ _ (by simp; try omega)).trans (by simp [go_sem]), (k _ _ (by simp; try omega)).trans (by simp [go_sem]), (k _ _ (by simp; try omega)).trans (by simp [go_sem]), (k _ _ (by simp; try omega)).trans (by simp [go_sem]), (k _ _ (by simp; try omega)).trans (by simp [go_sem]), (k _ _ (by simp; try omega)).trans (by simp [go_sem])⟩))
  rw [hw0]
  clear hw0
  have HZ0 := Lib.hid (Below.refl w0.heap.size w0)
  obtain ⟨c0, c1, c2, c3, c4, c5⟩ := HC.out w0 HZ0.out
  go_upto_region 3 with (go_at_call 19; (refine Calls.mono (AW _).out ?_); rintro e w1 ⟨rfl, hb1⟩; have H1 := Lib.hid hb1; clear hb1)
  obtain ⟨d0, d1, d2, d3, d4, d5⟩ := HC.out w1 H1.out
  go_upto_region 5 with (go_at_call 20; (refine Calls.mono (FE.out _) ?_); rintro e w2 ⟨rfl, hb2⟩; have H2 := Lib.hid (H1.out.trans (hb2.mono H1.out.size)); clear hb2)
  have HC2 := Lib.hid (fun wy (hy : Below w2.heap.size w2 wy) => HC.out wy (H2.out.trans (hy.mono H2.out.size)))
  have HW2 := Lib.hid (HB0.out.trans (H2.out.mono HB0.out.size))
  refine wp_region_one [18, 19, 20, 21, 22, 17, 23, 24, 7, 82, 8] 9 [rEq (.agg #[.int .i64 s, .int .i64 ww, .int .i64 t, .int .i64 en]), rEq (.agg #[.slice A n c, .int .i64 S]), (rBur 0 l n S), rEq (.int .i64 x), rEq (.tuple #[.agg #[.int .i64 0, .int .i64 0], .int .i64 eh]), rEq (.tuple #[.agg #[.int .i64 0, .int .i64 0], .int .i64 eh]), rEq (.agg #[.int .i64 0, .int .i64 0]), rEq (.int .i64 eh), (rPtr0 w2.heap.size), (rAny), rEq (.int .i64 eh)] [rEq (.agg #[.int .i64 s, .int .i64 ww, .int .i64 t, .int .i64 en]), rEq (.agg #[.slice A n c, .int .i64 S]), (rAny), rEq (.int .i64 x), rEq (.tuple #[.agg #[.int .i64 0, .int .i64 0], .int .i64 eh]), rEq (.tuple #[.agg #[.int .i64 0, .int .i64 0], .int .i64 eh]), rEq (.agg #[.int .i64 0, .int .i64 0]), rEq (.int .i64 eh), (rPtr1 w2.heap.size 0 0), (rAny), rEq (.int .i64 eh)] [9, 10] [0, 1, 2, 3, 4, 5, 6, 8, 9] (by kernel_rfl) (by kernel_rfl) (by decide) rfl ?_ (by decide) ?_ ?_ rfl ?_ ?_ ?_ ?_
  · intro i h
    have hi := stores_lt h
    revert h
    revert hi
    revert i
    decide +kernel
  · intro i o ho he
    have he' : i = 9 ∨ i = 10 := by simpa using he
    rcases he' with rfl | rfl
    · exact .inl rfl
    · cases ho; exact .inr (by decide)
  · intro i os ho hi he
    cases ho
    revert he
    revert hi
    revert i
    decide +kernel
  · refine ⟨?_, ?_, ?_, ?_, ?_, ?_, ?_, ?_, ?_, ?_, ?_, trivial⟩
    · intro _ ac wx hf hb hd -- 0
      have f3 : ac.tmps[3]?.getD undef = .pointer (some ⟨w.heap.size, 0, none⟩) := by rw [← Array.getD_eq_getD_getElem?]; exact hf.same 3 (by decide)
      obtain ⟨c0, c1, c2, c3, c4, c5⟩ := HC2.out wx hb
      exact rstep_eq (by simp [execOp, Act.eval, f3, c0, c1, c2, c3, go_sem]) rfl
    · intro _ ac wx hf hb hd -- 1
      have f4 : ac.tmps[4]?.getD undef = .pointer (some ⟨w.heap.size + 1, 0, none⟩) := by rw [← Array.getD_eq_getD_getElem?]; exact hf.same 4 (by decide)
      obtain ⟨c0, c1, c2, c3, c4, c5⟩ := HC2.out wx hb
      exact rstep_eq (by simp [execOp, Act.eval, f4, c4, c5, go_sem]) rfl
    · intro _ ac wx hf hb hd -- 2
      have d1 : ac.tmps[19]?.getD undef = .agg #[.slice A n c, .int .i64 S] := by rw [← Array.getD_eq_getD_getElem?]; exact hd 1 (by decide)
      exact rstep_copied (A := A) (c := c) (by omega) (HR.out.below (HW2.out.trans (hb.mono HW2.out.size))) (by simp [Act.eval, d1, buV, go_sem]) rfl
    · intro _ ac wx hf hb hd -- 3
      have f2 : ac.tmps[2]?.getD undef = .int .i64 x := by rw [← Array.getD_eq_getD_getElem?]; exact hf.same 2 (by decide)
      exact rstep_eq (by simp [execOp, Act.eval, f2, go_sem]) rfl
    · intro _ ac wx hf hb hd -- 4
      have d0 : ac.tmps[18]?.getD undef = .agg #[.int .i64 s, .int .i64 ww, .int .i64 t, .int .i64 en] := by rw [← Array.getD_eq_getD_getElem?]; exact hd 0 (by decide)
      obtain ⟨A2, cc2, d2, r2, -⟩ : ∃ A c, ac.tmps[20]?.getD undef = buV A n c S ∧ PtRow wx A n l ∧ _ := by rw [← Array.getD_eq_getD_getElem?]; exact hd 2 (by decide)
      have d3 : ac.tmps[21]?.getD undef = .int .i64 x := by rw [← Array.getD_eq_getD_getElem?]; exact hd 3 (by decide)
      refine rstep_call (f := 30) (args := #[.agg #[.int .i64 s, .int .i64 ww, .int .i64 t, .int .i64 en], buV A2 n cc2 S, .int .i64 x]) (by simp [Act.eval, d0, d2, d3, go_sem]) ?_ rfl
      exact HSH.out _ _ _ r2
    · intro _ ac wx hf hb hd -- 5
      have d4 : ac.tmps[22]?.getD undef = .tuple #[.agg #[.int .i64 0, .int .i64 0], .int .i64 eh] := by rw [← Array.getD_eq_getD_getElem?]; exact hd 4 (by decide)
      exact rstep_eq (by simp [execOp, Act.eval, d4, go_sem]) rfl
    · intro _ ac wx hf hb hd -- 6
      have d5 : ac.tmps[17]?.getD undef = .tuple #[.agg #[.int .i64 0, .int .i64 0], .int .i64 eh] := by rw [← Array.getD_eq_getD_getElem?]; exact hd 5 (by decide)
      exact rstep_eq (by simp [execOp, Act.eval, d5, go_sem]) rfl
    · intro _ ac wx hf hb hd -- 7
      have d5 : ac.tmps[17]?.getD undef = .tuple #[.agg #[.int .i64 0, .int .i64 0], .int .i64 eh] := by rw [← Array.getD_eq_getD_getElem?]; exact hd 5 (by decide)
      exact rstep_eq (by simp [execOp, Act.eval, d5, go_sem]) rfl
    · intro _ ac wx hf hb hd -- 8
      exact rstep_alloc hb.size (by simp [execOp, go_sem]) rfl
    · intro h; cases h
    · intro h; cases h
  · refine ⟨?_, ?_, ?_, ?_, ?_, ?_, ?_, ?_, ?_, ?_, ?_, trivial⟩
    · intro h; cases h
    · intro h; cases h
    · intro h; cases h
    · intro h; cases h
    · intro h; cases h
    · intro h; cases h
    · intro h; cases h
    · intro _ ac wx hf hb hd -- 7
      have d5 : ac.tmps[17]?.getD undef = .tuple #[.agg #[.int .i64 0, .int .i64 0], .int .i64 eh] := by rw [← Array.getD_eq_getD_getElem?]; exact hd 5 (by decide)
      exact rstep_eq (by simp [execOp, Act.eval, d5, go_sem]) rfl
    · intro h; cases h
    · intro h; cases h
    · intro _ ac wx hf hb hd -- 10
      have d7 : ac.tmps[24]?.getD undef = .int .i64 eh := by rw [← Array.getD_eq_getD_getElem?]; exact hd 7 (by decide)
      exact rstep_eq (by simp [execOp, Act.eval, d7, go_sem]) rfl
  · intro o ac wx ho hf hb hd
    have ho2 : _ = o := Option.some.inj ho
    subst ho2
    clear ho
    obtain ⟨pb, dp, pb0, pb1, p0, p1, p2, p3⟩ : ∃ blk, ac.tmps[7]?.getD undef = .pointer (some ⟨blk, 0, none⟩) ∧ w2.heap.size ≤ blk ∧ blk < wx.heap.size ∧ wx.cell? ⟨blk, 0, none⟩ = some (.int .i64 0) ∧ wx.cell? ⟨blk, 1, none⟩ = some (.int .i64 0) ∧ wx.frozen? ⟨blk, 0, none⟩ = false ∧ wx.frozen? ⟨blk, 1, none⟩ = false := by rw [← Array.getD_eq_getD_getElem?]; exact hd 8 (by decide)
    have dv : ac.tmps[23]?.getD undef = .agg #[.int .i64 0, .int .i64 0] := by rw [← Array.getD_eq_getD_getElem?]; exact hd 6 (by decide)
    simp [Oper.wp, Oper.upon, execOp, Act.eval, go_sem, dp, dv, p0, p1, p2, p3]
    refine ⟨(hb.setCell (p := ⟨pb, 0, none⟩) pb0 _).setCell (p := ⟨pb, 1, none⟩) pb0 _, fun j d hj hL => ?_⟩
    match j, hj, hL with
    | 0, _, hL => exact hL
    | 1, _, hL => exact hL
    | 2, _, _ => exact trivial
    | 3, _, hL => exact hL
    | 4, _, hL => exact hL
    | 5, _, hL => exact hL
    | 6, _, hL => exact hL
    | 7, _, hL => exact hL
    | 8, hj, _ =>
      cases hj
      exact ⟨pb, dp, pb0, by simpa using pb1, (World.cell?_setCell_other _ _ _ _ (by simp)).trans (World.cell?_setCell_same _ _ _ p0), World.cell?_setCell_same _ _ _ ((World.cell?_setCell_other _ _ _ _ (by simp)).trans p1)⟩
    | 9, _, _ => exact trivial
    | 10, _, hL => exact hL
    | _ + 11, hj, _ => simp at hj
  rintro ⟨⟨ll⟩, df⟩ w3 hf hbw3 hall
  have hdf : df = [] := hf.defers
  subst hdf
  have hsz : ll.length = 83 := hf.size
  obtain ⟨x0, ll0, rfl, hsz0⟩ := cons_of hsz
  obtain ⟨x1, ll1, rfl, hsz1⟩ := cons_of hsz0
  obtain ⟨x2, ll2, rfl, hsz2⟩ := cons_of hsz1
  obtain ⟨x3, ll3, rfl, hsz3⟩ := cons_of hsz2
  obtain ⟨x4, ll4, rfl, hsz4⟩ := cons_of hsz3
  obtain ⟨x5, ll5, rfl, hsz5⟩ := cons_of hsz4
  obtain ⟨x6, ll6, rfl, hsz6⟩ := cons_of hsz5
  obtain ⟨x7, ll7, rfl, hsz7⟩ := cons_of hsz6
  obtain ⟨x8, ll8, rfl, hsz8⟩ := cons_of hsz7
  obtain ⟨x9, ll9, rfl, hsz9⟩ := cons_of hsz8
  obtain ⟨x10, ll10, rfl, hsz10⟩ := cons_of hsz9
  obtain ⟨x11, ll11, rfl, hsz11⟩ := cons_of hsz10
  obtain ⟨x12, ll12, rfl, hsz12⟩ := cons_of hsz11
  obtain ⟨x13, ll13, rfl, hsz13⟩ := cons_of hsz12
  obtain ⟨x14, ll14, rfl, hsz14⟩ := cons_of hsz13
  obtain ⟨x15, ll15, rfl, hsz15⟩ := cons_of hsz14
  obtain ⟨x16, ll16, rfl, hsz16⟩ := cons_of hsz15
  obtain ⟨x17, ll17, rfl, hsz17⟩ := cons_of hsz16
  obtain ⟨x18, ll18, rfl, hsz18⟩ := cons_of hsz17
  obtain ⟨x19, ll19, rfl, hsz19⟩ := cons_of hsz18
  obtain ⟨x20, ll20, rfl, hsz20⟩ := cons_of hsz19
  obtain ⟨x21, ll21, rfl, hsz21⟩ := cons_of hsz20
  obtain ⟨x22, ll22, rfl, hsz22⟩ := cons_of hsz21
  obtain ⟨x23, ll23, rfl, hsz23⟩ := cons_of hsz22
  obtain ⟨x24, ll24, rfl, hsz24⟩ := cons_of hsz23
  obtain ⟨x25, ll25, rfl, hsz25⟩ := cons_of hsz24
  obtain ⟨x26, ll26, rfl, hsz26⟩ := cons_of hsz25
  obtain ⟨x27, ll27, rfl, hsz27⟩ := cons_of hsz26
  obtain ⟨x28, ll28, rfl, hsz28⟩ := cons_of hsz27
  obtain ⟨x29, ll29, rfl, hsz29⟩ := cons_of hsz28
  obtain ⟨x30, ll30, rfl, hsz30⟩ := cons_of hsz29
  obtain ⟨x31, ll31, rfl, hsz31⟩ := cons_of hsz30
  obtain ⟨x32, ll32, rfl, hsz32⟩ := cons_of hsz31
  obtain ⟨x33, ll33, rfl, hsz33⟩ := cons_of hsz32
  obtain ⟨x34, ll34, rfl, hsz34⟩ := cons_of hsz33
  obtain ⟨x35, ll35, rfl, hsz35⟩ := cons_of hsz34
  obtain ⟨x36, ll36, rfl, hsz36⟩ := cons_of hsz35
  obtain ⟨x37, ll37, rfl, hsz37⟩ := cons_of hsz36
  obtain ⟨x38, ll38, rfl, hsz38⟩ := cons_of hsz37
  obtain ⟨x39, ll39, rfl, hsz39⟩ := cons_of hsz38
  obtain ⟨x40, ll40, rfl, hsz40⟩ := cons_of hsz39
  obtain ⟨x41, ll41, rfl, hsz41⟩ := cons_of hsz40
  obtain ⟨x42, ll42, rfl, hsz42⟩ := cons_of hsz41
  obtain ⟨x43, ll43, rfl, hsz43⟩ := cons_of hsz42
  obtain ⟨x44, ll44, rfl, hsz44⟩ := cons_of hsz43
  obtain ⟨x45, ll45, rfl, hsz45⟩ := cons_of hsz44
  obtain ⟨x46, ll46, rfl, hsz46⟩ := cons_of hsz45
  obtain ⟨x47, ll47, rfl, hsz47⟩ := cons_of hsz46
  obtain ⟨x48, ll48, rfl, hsz48⟩ := cons_of hsz47
  obtain ⟨x49, ll49, rfl, hsz49⟩ := cons_of hsz48
  obtain ⟨x50, ll50, rfl, hsz50⟩ := cons_of hsz49
  obtain ⟨x51, ll51, rfl, hsz51⟩ := cons_of hsz50
  obtain ⟨x52, ll52, rfl, hsz52⟩ := cons_of hsz51
  obtain ⟨x53, ll53, rfl, hsz53⟩ := cons_of hsz52
  obtain ⟨x54, ll54, rfl, hsz54⟩ := cons_of hsz53
  obtain ⟨x55, ll55, rfl, hsz55⟩ := cons_of hsz54
  obtain ⟨x56, ll56, rfl, hsz56⟩ := cons_of hsz55
  obtain ⟨x57, ll57, rfl, hsz57⟩ := cons_of hsz56
  obtain ⟨x58, ll58, rfl, hsz58⟩ := cons_of hsz57
  obtain ⟨x59, ll59, rfl, hsz59⟩ := cons_of hsz58
  obtain ⟨x60, ll60, rfl, hsz60⟩ := cons_of hsz59
  obtain ⟨x61, ll61, rfl, hsz61⟩ := cons_of hsz60
  obtain ⟨x62, ll62, rfl, hsz62⟩ := cons_of hsz61
  obtain ⟨x63, ll63, rfl, hsz63⟩ := cons_of hsz62
  obtain ⟨x64, ll64, rfl, hsz64⟩ := cons_of hsz63
  obtain ⟨x65, ll65, rfl, hsz65⟩ := cons_of hsz64
  obtain ⟨x66, ll66, rfl, hsz66⟩ := cons_of hsz65
  obtain ⟨x67, ll67, rfl, hsz67⟩ := cons_of hsz66
  obtain ⟨x68, ll68, rfl, hsz68⟩ := cons_of hsz67
  obtain ⟨x69, ll69, rfl, hsz69⟩ := cons_of hsz68
  obtain ⟨x70, ll70, rfl, hsz70⟩ := cons_of hsz69
  obtain ⟨x71, ll71, rfl, hsz71⟩ := cons_of hsz70
  obtain ⟨x72, ll72, rfl, hsz72⟩ := cons_of hsz71
  obtain ⟨x73, ll73, rfl, hsz73⟩ := cons_of hsz72
  obtain ⟨x74, ll74, rfl, hsz74⟩ := cons_of hsz73
  obtain ⟨x75, ll75, rfl, hsz75⟩ := cons_of hsz74
  obtain ⟨x76, ll76, rfl, hsz76⟩ := cons_of hsz75
  obtain ⟨x77, ll77, rfl, hsz77⟩ := cons_of hsz76
  obtain ⟨x78, ll78, rfl, hsz78⟩ := cons_of hsz77
  obtain ⟨x79, ll79, rfl, hsz79⟩ := cons_of hsz78
  obtain ⟨x80, ll80, rfl, hsz80⟩ := cons_of hsz79
  obtain ⟨x81, ll81, rfl, hsz81⟩ := cons_of hsz80
  obtain ⟨x82, ll82, rfl, hsz82⟩ := cons_of hsz81
  obtain rfl := List.eq_nil_of_length_eq_zero hsz82
  obtain rfl : x2 = .int .i64 x := hf.same 2 (by decide)
  obtain rfl : x3 = .pointer (some ⟨w.heap.size, 0, none⟩) := hf.same 3 (by decide)
  obtain rfl : x4 = .pointer (some ⟨w.heap.size + 1, 0, none⟩) := hf.same 4 (by decide)
  obtain rfl : x8 = .int .i64 eh := hall 10 8 rfl
  obtain rfl : x17 = .tuple #[.agg #[.int .i64 0, .int .i64 0], .int .i64 eh] := hall 5 17 rfl
  obtain rfl : x18 = .agg #[.int .i64 s, .int .i64 ww, .int .i64 t, .int .i64 en] := hall 0 18 rfl
  obtain rfl : x19 = .agg #[.slice A n c, .int .i64 S] := hall 1 19 rfl
  obtain rfl : x21 = .int .i64 x := hall 3 21 rfl
  obtain rfl : x22 = .tuple #[.agg #[.int .i64 0, .int .i64 0], .int .i64 eh] := hall 4 22 rfl
  obtain rfl : x23 = .agg #[.int .i64 0, .int .i64 0] := hall 6 23 rfl
  obtain rfl : x24 = .int .i64 eh := hall 7 24 rfl
  obtain ⟨pw3, hxw3, plw3, psw3, paw3, pcw3⟩ : ∃ blk, x7 = .pointer (some ⟨blk, 0, none⟩) ∧ w2.heap.size ≤ blk ∧ blk < w3.heap.size ∧ w3.cell? ⟨blk, 0, none⟩ = some (.int .i64 0) ∧ w3.cell? ⟨blk, 1, none⟩ = some (.int .i64 0) := hall 8 7 rfl
  subst hxw3
  clear hall hf
  have H3 := Lib.hid (H2.out.trans (hbw3.mono H2.out.size))
  have HC3 := Lib.hid (fun wy (hy : Below w3.heap.size w3 wy) => HC.out wy (H3.out.trans (hy.mono H3.out.size)))
  have HW3 := Lib.hid (HB0.out.trans (H3.out.mono HB0.out.size))
  clear hbw3
  go_upto_region 6 with fail
  refine wp_region_one [26, 27, 28, 29, 30, 25, 31, 32, 9, 82, 10] 9 [rEq (.agg #[.int .i64 s, .int .i64 ww, .int .i64 t, .int .i64 en]), rEq (.agg #[.slice A n c, .int .i64 S]), (rBur 0 l n S), rEq (.int .i64 x), rEq (.tuple #[.agg #[.int .i64 0, .int .i64 0], .int .i64 eh]), rEq (.tuple #[.agg #[.int .i64 0, .int .i64 0], .int .i64 eh]), rEq (.agg #[.int .i64 0, .int .i64 0]), rEq (.int .i64 eh), (rPtr0 w3.heap.size), (rAny), rEq (.int .i64 eh)] [rEq (.agg #[.int .i64 s, .int .i64 ww, .int .i64 t, .int .i64 en]), rEq (.agg #[.slice A n c, .int .i64 S]), (rAny), rEq (.int .i64 x), rEq (.tuple #[.agg #[.int .i64 0, .int .i64 0], .int .i64 eh]), rEq (.tuple #[.agg #[.int .i64 0, .int .i64 0], .int .i64 eh]), rEq (.agg #[.int .i64 0, .int .i64 0]), rEq (.int .i64 eh), (rPtr1 w3.heap.size 0 0), (rAny), rEq (.int .i64 eh)] [9, 10] [0, 1, 2, 3, 4, 5, 6, 8, 9] (by kernel_rfl) (by kernel_rfl) (by decide) rfl ?_ (by decide) ?_ ?_ rfl ?_ ?_ ?_ ?_
  · intro i h
    have hi := stores_lt h
    revert h
    revert hi
    revert i
    decide +kernel
  · intro i o ho he
    have he' : i = 9 ∨ i = 10 := by simpa using he
    rcases he' with rfl | rfl
    · exact .inl rfl
    · cases ho; exact .inr (by decide)
  · intro i os ho hi he
    cases ho
    revert he
    revert hi
    revert i
    decide +kernel
  · refine ⟨?_, ?_, ?_, ?_, ?_, ?_, ?_, ?_, ?_, ?_, ?_, trivial⟩
    · intro _ ac wx hf hb hd -- 0
      have f3 : ac.tmps[3]?.getD undef = .pointer (some ⟨w.heap.size, 0, none⟩) := by rw [← Array.getD_eq_getD_getElem?]; exact hf.same 3 (by decide)
      obtain ⟨c0, c1, c2, c3, c4, c5⟩ := HC3.out wx hb
      exact rstep_eq (by simp [execOp, Act.eval, f3, c0, c1, c2, c3, go_sem]) rfl
    · intro _ ac wx hf hb hd -- 1
      have f4 : ac.tmps[4]?.getD undef = .pointer (some ⟨w.heap.size + 1, 0, none⟩) := by rw [← Array.getD_eq_getD_getElem?]; exact hf.same 4 (by decide)
      obtain ⟨c0, c1, c2, c3, c4, c5⟩ := HC3.out wx hb
      exact rstep_eq (by simp [execOp, Act.eval, f4, c4, c5, go_sem]) rfl
    · intro _ ac wx hf hb hd -- 2
      have d1 : ac.tmps[27]?.getD undef = .agg #[.slice A n c, .int .i64 S] := by rw [← Array.getD_eq_getD_getElem?]; exact hd 1 (by decide)
      exact rstep_copied (A := A) (c := c) (by omega) (HR.out.below (HW3.out.trans (hb.mono HW3.out.size))) (by simp [Act.eval, d1, buV, go_sem]) rfl
    · intro _ ac wx hf hb hd -- 3
      have f2 : ac.tmps[2]?.getD undef = .int .i64 x := by rw [← Array.getD_eq_getD_getElem?]; exact hf.same 2 (by decide)
      exact rstep_eq (by simp [execOp, Act.eval, f2, go_sem]) rfl
    · intro _ ac wx hf hb hd -- 4
      have d0 : ac.tmps[26]?.getD undef = .agg #[.int .i64 s, .int .i64 ww, .int .i64 t, .int .i64 en] := by rw [← Array.getD_eq_getD_getElem?]; exact hd 0 (by decide)
      obtain ⟨A2, cc2, d2, r2, -⟩ : ∃ A c, ac.tmps[28]?.getD undef = buV A n c S ∧ PtRow wx A n l ∧ _ := by rw [← Array.getD_eq_getD_getElem?]; exact hd 2 (by decide)
      have d3 : ac.tmps[29]?.getD undef = .int .i64 x := by rw [← Array.getD_eq_getD_getElem?]; exact hd 3 (by decide)
      refine rstep_call (f := 31) (args := #[.agg #[.int .i64 s, .int .i64 ww, .int .i64 t, .int .i64 en], buV A2 n cc2 S, .int .i64 x]) (by simp [Act.eval, d0, d2, d3, go_sem]) ?_ rfl
      exact HMO.out _ _ _ r2
    · intro _ ac wx hf hb hd -- 5
      have d4 : ac.tmps[30]?.getD undef = .tuple #[.agg #[.int .i64 0, .int .i64 0], .int .i64 eh] := by rw [← Array.getD_eq_getD_getElem?]; exact hd 4 (by decide)
      exact rstep_eq (by simp [execOp, Act.eval, d4, go_sem]) rfl
    · intro _ ac wx hf hb hd -- 6
      have d5 : ac.tmps[25]?.getD undef = .tuple #[.agg #[.int .i64 0, .int .i64 0], .int .i64 eh] := by rw [← Array.getD_eq_getD_getElem?]; exact hd 5 (by decide)
      exact rstep_eq (by simp [execOp, Act.eval, d5, go_sem]) rfl
    · intro _ ac wx hf hb hd -- 7
      have d5 : ac.tmps[25]?.getD undef = .tuple #[.agg #[.int .i64 0, .int .i64 0], .int .i64 eh] := by rw [← Array.getD_eq_getD_getElem?]; exact hd 5 (by decide)
      exact rstep_eq (by simp [execOp, Act.eval, d5, go_sem]) rfl
    · intro _ ac wx hf hb hd -- 8
      exact rstep_alloc hb.size (by simp [execOp, go_sem]) rfl
    · intro h; cases h
    · intro h; cases h
  · refine ⟨?_, ?_, ?_, ?_, ?_, ?_, ?_, ?_, ?_, ?_, ?_, trivial⟩
    · intro h; cases h
    · intro h; cases h
    · intro h; cases h
    · intro h; cases h
    · intro h; cases h
    · intro h; cases h
    · intro h; cases h
    · intro _ ac wx hf hb hd -- 7
      have d5 : ac.tmps[25]?.getD undef = .tuple #[.agg #[.int .i64 0, .int .i64 0], .int .i64 eh] := by rw [← Array.getD_eq_getD_getElem?]; exact hd 5 (by decide)
      exact rstep_eq (by simp [execOp, Act.eval, d5, go_sem]) rfl
    · intro h; cases h
    · intro h; cases h
    · intro _ ac wx hf hb hd -- 10
      have d7 : ac.tmps[32]?.getD undef = .int .i64 eh := by rw [← Array.getD_eq_getD_getElem?]; exact hd 7 (by decide)
      exact rstep_eq (by simp [execOp, Act.eval, d7, go_sem]) rfl
  · intro o ac wx ho hf hb hd
    have ho2 : _ = o := Option.some.inj ho
    subst ho2
    clear ho
    obtain ⟨pb, dp, pb0, pb1, p0, p1, p2, p3⟩ : ∃ blk, ac.tmps[9]?.getD undef = .pointer (some ⟨blk, 0, none⟩) ∧ w3.heap.size ≤ blk ∧ blk < wx.heap.size ∧ wx.cell? ⟨blk, 0, none⟩ = some (.int .i64 0) ∧ wx.cell? ⟨blk, 1, none⟩ = some (.int .i64 0) ∧ wx.frozen? ⟨blk, 0, none⟩ = false ∧ wx.frozen? ⟨blk, 1, none⟩ = false := by rw [← Array.getD_eq_getD_getElem?]; exact hd 8 (by decide)
    have dv : ac.tmps[31]?.getD undef = .agg #[.int .i64 0, .int .i64 0] := by rw [← Array.getD_eq_getD_getElem?]; exact hd 6 (by decide)
    simp [Oper.wp, Oper.upon, execOp, Act.eval, go_sem, dp, dv, p0, p1, p2, p3]
    refine ⟨(hb.setCell (p := ⟨pb, 0, none⟩) pb0 _).setCell (p := ⟨pb, 1, none⟩) pb0 _, fun j d hj hL => ?_⟩
    match j, hj, hL with
    | 0, _, hL => exact hL
    | 1, _, hL => exact hL
    | 2, _, _ => exact trivial
    | 3, _, hL => exact hL
    | 4, _, hL => exact hL
    | 5, _, hL => exact hL
    | 6, _, hL => exact hL
    | 7, _, hL => exact hL
    | 8, hj, _ =>
      cases hj
      exact ⟨pb, dp, pb0, by simpa using pb1, (World.cell?_setCell_other _ _ _ _ (by simp)).trans (World.cell?_setCell_same _ _ _ p0), World.cell?_setCell_same _ _ _ ((World.cell?_setCell_other _ _ _ _ (by simp)).trans p1)⟩
    | 9, _, _ => exact trivial
    | 10, _, hL => exact hL
    | _ + 11, hj, _ => simp at hj
  rintro ⟨⟨ll⟩, df⟩ w4 hf hbw4 hall
  have hdf : df = [] := hf.defers
  subst hdf
  have hsz : ll.length = 83 := hf.size
  obtain ⟨x0, ll0, rfl, hsz0⟩ := cons_of hsz
  obtain ⟨x1, ll1, rfl, hsz1⟩ := cons_of hsz0
  obtain ⟨x2, ll2, rfl, hsz2⟩ := cons_of hsz1
  obtain ⟨x3, ll3, rfl, hsz3⟩ := cons_of hsz2
  obtain ⟨x4, ll4, rfl, hsz4⟩ := cons_of hsz3
  obtain ⟨x5, ll5, rfl, hsz5⟩ := cons_of hsz4
  obtain ⟨x6, ll6, rfl, hsz6⟩ := cons_of hsz5
  obtain ⟨x7, ll7, rfl, hsz7⟩ := cons_of hsz6
  obtain ⟨x8, ll8, rfl, hsz8⟩ := cons_of hsz7
  obtain ⟨x9, ll9, rfl, hsz9⟩ := cons_of hsz8
  obtain ⟨x10, ll10, rfl, hsz10⟩ := cons_of hsz9
  obtain ⟨x11, ll11, rfl, hsz11⟩ := cons_of hsz10
  obtain ⟨x12, ll12, rfl, hsz12⟩ := cons_of hsz11
  obtain ⟨x13, ll13, rfl, hsz13⟩ := cons_of hsz12
  obtain ⟨x14, ll14, rfl, hsz14⟩ := cons_of hsz13
  obtain ⟨x15, ll15, rfl, hsz15⟩ := cons_of hsz14
  obtain ⟨x16, ll16, rfl, hsz16⟩ := cons_of hsz15
  obtain ⟨x17, ll17, rfl, hsz17⟩ := cons_of hsz16
  obtain ⟨x18, ll18, rfl, hsz18⟩ := cons_of hsz17
  obtain ⟨x19, ll19, rfl, hsz19⟩ := cons_of hsz18
  obtain ⟨x20, ll20, rfl, hsz20⟩ := cons_of hsz19
  obtain ⟨x21, ll21, rfl, hsz21⟩ := cons_of hsz20
  obtain ⟨x22, ll22, rfl, hsz22⟩ := cons_of hsz21
  obtain ⟨x23, ll23, rfl, hsz23⟩ := cons_of hsz22
  obtain ⟨x24, ll24, rfl, hsz24⟩ := cons_of hsz23
  obtain ⟨x25, ll25, rfl, hsz25⟩ := cons_of hsz24
  obtain ⟨x26, ll26, rfl, hsz26⟩ := cons_of hsz25
  obtain ⟨x27, ll27, rfl, hsz27⟩ := cons_of hsz26
  obtain ⟨x28, ll28, rfl, hsz28⟩ := cons_of hsz27
  obtain ⟨x29, ll29, rfl, hsz29⟩ := cons_of hsz28
  obtain ⟨x30, ll30, rfl, hsz30⟩ := cons_of hsz29
  obtain ⟨x31, ll31, rfl, hsz31⟩ := cons_of hsz30
  obtain ⟨x32, ll32, rfl, hsz32⟩ := cons_of hsz31
  obtain ⟨x33, ll33, rfl, hsz33⟩ := cons_of hsz32
  obtain ⟨x34, ll34, rfl, hsz34⟩ := cons_of hsz33
  obtain ⟨x35, ll35, rfl, hsz35⟩ := cons_of hsz34
  obtain ⟨x36, ll36, rfl, hsz36⟩ := cons_of hsz35
  obtain ⟨x37, ll37, rfl, hsz37⟩ := cons_of hsz36
  obtain ⟨x38, ll38, rfl, hsz38⟩ := cons_of hsz37
  obtain ⟨x39, ll39, rfl, hsz39⟩ := cons_of hsz38
  obtain ⟨x40, ll40, rfl, hsz40⟩ := cons_of hsz39
  obtain ⟨x41, ll41, rfl, hsz41⟩ := cons_of hsz40
  obtain ⟨x42, ll42, rfl, hsz42⟩ := cons_of hsz41
  obtain ⟨x43, ll43, rfl, hsz43⟩ := cons_of hsz42
  obtain ⟨x44, ll44, rfl, hsz44⟩ := cons_of hsz43
  obtain ⟨x45, ll45, rfl, hsz45⟩ := cons_of hsz44
  obtain ⟨x46, ll46, rfl, hsz46⟩ := cons_of hsz45
  obtain ⟨x47, ll47, rfl, hsz47⟩ := cons_of hsz46
  obtain ⟨x48, ll48, rfl, hsz48⟩ := cons_of hsz47
  obtain ⟨x49, ll49, rfl, hsz49⟩ := cons_of hsz48
  obtain ⟨x50, ll50, rfl, hsz50⟩ := cons_of hsz49
  obtain ⟨x51, ll51, rfl, hsz51⟩ := cons_of hsz50
  obtain ⟨x52, ll52, rfl, hsz52⟩ := cons_of hsz51
  obtain ⟨x53, ll53, rfl, hsz53⟩ := cons_of hsz52
  obtain ⟨x54, ll54, rfl, hsz54⟩ := cons_of hsz53
  obtain ⟨x55, ll55, rfl, hsz55⟩ := cons_of hsz54
  obtain ⟨x56, ll56, rfl, hsz56⟩ := cons_of hsz55
  obtain ⟨x57, ll57, rfl, hsz57⟩ := cons_of hsz56
  obtain ⟨x58, ll58, rfl, hsz58⟩ := cons_of hsz57
  obtain ⟨x59, ll59, rfl, hsz59⟩ := cons_of hsz58
  obtain ⟨x60, ll60, rfl, hsz60⟩ := cons_of hsz59
  obtain ⟨x61, ll61, rfl, hsz61⟩ := cons_of hsz60
  obtain ⟨x62, ll62, rfl, hsz62⟩ := cons_of hsz61
  obtain ⟨x63, ll63, rfl, hsz63⟩ := cons_of hsz62
  obtain ⟨x64, ll64, rfl, hsz64⟩ := cons_of hsz63
  obtain ⟨x65, ll65, rfl, hsz65⟩ := cons_of hsz64
  obtain ⟨x66, ll66, rfl, hsz66⟩ := cons_of hsz65
  obtain ⟨x67, ll67, rfl, hsz67⟩ := cons_of hsz66
  obtain ⟨x68, ll68, rfl, hsz68⟩ := cons_of hsz67
  obtain ⟨x69, ll69, rfl, hsz69⟩ := cons_of hsz68
  obtain ⟨x70, ll70, rfl, hsz70⟩ := cons_of hsz69
  obtain ⟨x71, ll71, rfl, hsz71⟩ := cons_of hsz70
  obtain ⟨x72, ll72, rfl, hsz72⟩ := cons_of hsz71
  obtain ⟨x73, ll73, rfl, hsz73⟩ := cons_of hsz72
  obtain ⟨x74, ll74, rfl, hsz74⟩ := cons_of hsz73
  obtain ⟨x75, ll75, rfl, hsz75⟩ := cons_of hsz74
  obtain ⟨x76, ll76, rfl, hsz76⟩ := cons_of hsz75
  obtain ⟨x77, ll77, rfl, hsz77⟩ := cons_of hsz76
  obtain ⟨x78, ll78, rfl, hsz78⟩ := cons_of hsz77
  obtain ⟨x79, ll79, rfl, hsz79⟩ := cons_of hsz78
  obtain ⟨x80, ll80, rfl, hsz80⟩ := cons_of hsz79
  obtain ⟨x81, ll81, rfl, hsz81⟩ := cons_of hsz80
  obtain ⟨x82, ll82, rfl, hsz82⟩ := cons_of hsz81
  obtain rfl := List.eq_nil_of_length_eq_zero hsz82
  obtain rfl : x2 = .int .i64 x := hf.same 2 (by decide)
  obtain rfl : x3 = .pointer (some ⟨w.heap.size, 0, none⟩) := hf.same 3 (by decide)
  obtain rfl : x4 = .pointer (some ⟨w.heap.size + 1, 0, none⟩) := hf.same 4 (by decide)
  obtain rfl : x7 = .pointer (some ⟨pw3, 0, none⟩) := hf.same 7 (by decide)
  obtain rfl : x8 = .int .i64 eh := hf.same 8 (by decide)
  obtain rfl : x10 = .int .i64 eh := hall 10 10 rfl
  obtain rfl : x25 = .tuple #[.agg #[.int .i64 0, .int .i64 0], .int .i64 eh] := hall 5 25 rfl
  obtain rfl : x26 = .agg #[.int .i64 s, .int .i64 ww, .int .i64 t, .int .i64 en] := hall 0 26 rfl
  obtain rfl : x27 = .agg #[.slice A n c, .int .i64 S] := hall 1 27 rfl
  obtain rfl : x29 = .int .i64 x := hall 3 29 rfl
  obtain rfl : x30 = .tuple #[.agg #[.int .i64 0, .int .i64 0], .int .i64 eh] := hall 4 30 rfl
  obtain rfl : x31 = .agg #[.int .i64 0, .int .i64 0] := hall 6 31 rfl
  obtain rfl : x32 = .int .i64 eh := hall 7 32 rfl
  obtain ⟨pw4, hxw4, plw4, psw4, paw4, pcw4⟩ : ∃ blk, x9 = .pointer (some ⟨blk, 0, none⟩) ∧ w3.heap.size ≤ blk ∧ blk < w4.heap.size ∧ w4.cell? ⟨blk, 0, none⟩ = some (.int .i64 0) ∧ w4.cell? ⟨blk, 1, none⟩ = some (.int .i64 0) := hall 8 9 rfl
  subst hxw4
  clear hall hf
  have H4 := Lib.hid (H3.out.trans (hbw4.mono H3.out.size))
  have hw3 := hbw4.size
  have q0 := ((bcell hbw4).1 _ _ psw3).trans paw3
  have q1 := ((bcell hbw4).1 _ _ psw3).trans pcw3
  have psw3' : pw3 < w4.heap.size := by omega
  obtain ⟨k0, k1, k2, k3, k4, k5⟩ := HC.out w4 H4.out
  have HCB := Lib.hid CB
  clear hbw4 paw3 pcw3
  go_upto_region 8 with (go_at_call 23; (refine Calls.mono (HCB.out _ (HB0.out.trans (H4.out.mono HB0.out.size))) ?_); rintro e w6 ⟨rfl, hb6⟩; have H6 := Lib.hid (H4.out.trans (hb6.mono H4.out.size)); have r0 := ((bcell hb6).1 _ _ psw3').trans q0; have r1 := ((bcell hb6).1 _ _ psw3').trans q1; have r2 := ((bcell hb6).1 _ _ psw4).trans paw4; have r3 := ((bcell hb6).1 _ _ psw4).trans pcw4; clear hb6)
  clear q0 q1 paw4 pcw4 k0 k1 k2 k3 k4 k5
  obtain ⟨m0, m1, m2, m3, m4, m5⟩ := HC.out w6 H6.out
  have hde : (eh == 0) = false := by simpa using hne
  have NO := fun wx b (h0 : World.cell? wx ⟨b, 0, none⟩ = some (.int .i64 0)) (h1 : World.cell? wx ⟨b, 1, none⟩ = some (.int .i64 0)) (h2 : World.cell? wx ⟨b, 2, none⟩ = some (.int .i64 0)) (h3 : World.cell? wx ⟨b, 3, none⟩ = some (.int .i64 0)) => Lib.hid (none_two (c := 2) wx h0 h1 h2 h3)
  go_wp2_with (go_at_call 27; (refine Calls.mono (NO _ _ (by simp [go_sem]) (by simp [go_sem]) (by simp [go_sem]) (by simp [go_sem])).out ?_); rintro e w7 ⟨rfl, rfl⟩)
  go_ret
  exact ⟨rfl, HB0.out.trans ((H6.out.alloc H6.out.size _).mono HB0.out.size)⟩
end Go.Proofs.Ytablphoicidlkaa
