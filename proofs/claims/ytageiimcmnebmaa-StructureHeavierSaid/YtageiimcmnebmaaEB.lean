/- Two burdens that are the same. -/
import Derived.Test.YtageiimcmnebmaaCE
import Derived.Test.YtageiimcmnebmaaRF
import Derived.Test.YtageiimcmnebmaaSH
import Derived.ChangeKeysEq
namespace Go.Proofs.Ytageiimcmnebmaa
open Go.RowKit Go.Maps

set_option maxRecDepth 100000 in
theorem eqArr2 (a b : Int) (w : World) : (Op.equalIn 10000 90 (.agg #[.int .i64 a, .int .i64 b]) (.agg #[.int .i64 a, .int .i64 b])).run Try.prog w = .ok true w := by
  obtain ⟨i, hi, hz0, hz1, hz2⟩ := info_parts infoI
  rw [show (10000 : Nat) = 9999 + 1 from rfl, run_equalIn_array w 9999 _ _ Try.underlying90 hi, show Try.prog.cellsOf 3 = 1 by kernel_rfl, show List.range 2 = [0, 1] from rfl]
  have hp : ∀ (w : World) (j : Nat) (x y : Value), j < 2 → (part 3 #[x, y] (j * 1)).run Try.prog w = .ok (if j = 0 then x else y) w := by
    intro w j x y hj
    have ha : (isAgg 3).run Try.prog w = .ok false w := by kernel_rfl
    match j, hj with
    | 0, _ => simp [part, ha]
    | 1, _ => simp [part, ha]
  have he : ∀ (w : World) (x : Int), (Op.equalIn 9999 3 (.int .i64 x) (.int .i64 x)).run Try.prog w = .ok true w := by
    intro w x
    have := run_equalIn_int w 9998 3 .i64 .i64 x x Try.underlying3
    rw [this, beq_self_eq_true]
  simp only [Op.eqItems, Sem.run_bind, hp _ 0 _ _ (by omega), Result.andThen_ok, if_true, he]
  have hp1 : ∀ (w : World) (x y : Value), (part 3 #[x, y] 1).run Try.prog w = .ok y w := fun w x y => hp w 1 x y (by omega)
  simp [hp1, he]
set_option maxHeartbeats 8000000 in
set_option maxRecDepth 20000 in
theorem same_any {A A' : Option Addr} {n c c' : Nat} {S : Int} {l : List Pt} (hn : n ≤ maxLen) (w : World) (h : PtRow w A n l) (h' : PtRow w A' n l) :
    Calls Try.prog 46 #[buV A n c S, buV A' n c' S] w fun e w' => e = .returned (.bool true) ∧ Below w.heap.size w w' := by
  have HR := Lib.hid h
  have HR' := Lib.hid h'
  have hle : l.length ≤ n := by have := h.1; omega
  have hge : n ≤ l.length := by have := h.1; omega
  have hnm : n ≤ 9223372036854775807 := by unfold maxLen at hn; omega
  clear h h' hn
  unfold buV
  go_enter Try.func46, Try.ntmps46
  go_upto_region 1 with fail
  obtain ⟨w0, hw0⟩ : ∃ w0, ((w.alloc (.cells #[.slice A n c, .int .i64 S] 26)).alloc (.cells #[.slice A' n c', .int .i64 S] 26)) = w0 := ⟨_, rfl⟩
  have HB0 : Hid (Below w.heap.size w w0) := Lib.hid (by rw [← hw0]; exact (((Below.refl _ _).alloc (Nat.le_refl _) _).alloc (by simp; try omega) _))
  have HC := Lib.hid (fun wx (hb : Below w0.heap.size w0 wx) => (show wx.cell? ⟨w.heap.size, 0, none⟩ = some (.slice A n c) ∧ wx.cell? ⟨w.heap.size, 1, none⟩ = some (.int .i64 S) ∧ wx.cell? ⟨w.heap.size + 1, 0, none⟩ = some (.slice A' n c') ∧ wx.cell? ⟨w.heap.size + 1, 1, none⟩ = some (.int .i64 S) from by
    subst hw0
    obtain ⟨k, kf⟩ := bcell hb
    exact ⟨(k _ _ (by simp; try omega)).trans (by simp [go_sem]), (k _ _ (by simp; try omega)).trans (by simp [go_sem]), (k _ _ (by simp; try omega)).trans (by simp [go_sem]), (k _ _ (by simp; try omega)).trans (by simp [go_sem])⟩))
  rw [hw0]
  clear hw0
  have HZ0 := Lib.hid (Below.refl w0.heap.size w0)
  obtain ⟨c0, c1, c2, c3⟩ := HC.out w0 HZ0.out
  go_wp2
  go_loopw [5] (fun i wr => ∃ k : Nat, k ≤ n ∧ i = .int .i64 k ∧ Below w0.heap.size w0 wr) (fun i _ => n - (intOf i).toNat)
  case atStart => exact ⟨0, Nat.zero_le _, rfl, HZ0.out⟩
  case round =>
    obtain ⟨k, hk, rfl, hbw⟩ := hrel
    clear c0 c1 c2 c3
    have HB := Lib.hid hbw
    have HBW := Lib.hid (HB0.out.trans (hbw.mono HB0.out.size))
    obtain ⟨d0, d1, d2, d3⟩ := HC.out wr hbw
    clear hbw
    by_cases hlt : k < n
    · have hkl : k < l.length := by omega
      obtain ⟨blk, off, rfl, hblk, hx⟩ := HR.out.2 (by omega)
      obtain ⟨blk', off', rfl, hblk', hx'⟩ := HR'.out.2 (by omega)
      have HPP := Lib.hid (fun wx (hb : Below wr.heap.size wr wx) => let hB := HBW.out.trans (hb.mono HBW.out.size); And.intro ((hx k hkl).below hB hblk) ((hx' k hkl).below hB hblk'))
      obtain ⟨p, hpe⟩ : ∃ x, l[k] = x := ⟨_, rfl⟩
      rw [hpe] at HPP
      clear hx hx' hpe
      obtain ⟨a, v⟩ := p
      unfold PtAt at HPP
      simp only at HPP
      have HCR := Lib.hid (fun wx (hb : Below wr.heap.size wr wx) => let h := HC.out wx (HB.out.trans (hb.mono HB.out.size)); let g := HPP.out wx hb; And.intro h.1 (And.intro h.2.1 (And.intro h.2.2.1 (And.intro h.2.2.2 (And.intro g.1.1 (And.intro g.1.2 (And.intro g.2.1 g.2.2)))))))
      have hk64 : IntKind.i64.wrap (k : Int) = k := i64w (w64 (by omega))
      have hki : (k : Int) < (n : Int) := by omega
      have hk0 : (0 : Int) ≤ (k : Int) := by omega
      go_wp2
      refine wp_region_rk [27, 28, 29, 30, 31, 32, 33, 34, 35, 36, 37] [rEq (.pointer (some ⟨w.heap.size, 0, none⟩)), rEq (.slice (some ⟨blk, off, none⟩) n c), rEq (.int .i64 (k : Int)), rEq (.pointer (some ⟨blk, off + k * 2, none⟩)), rEq (.agg #[.int .i64 a, .int .i64 v]), rEq (.pointer (some ⟨w.heap.size + 1, 0, none⟩)), rEq (.slice (some ⟨blk', off', none⟩) n c'), rEq (.int .i64 (k : Int)), rEq (.pointer (some ⟨blk', off' + k * 2, none⟩)), rEq (.agg #[.int .i64 a, .int .i64 v]), rEq (.bool false)] (by kernel_rfl) (by kernel_rfl) (by decide) rfl ⟨?_, ?_, ?_, ?_, ?_, ?_, ?_, ?_, ?_, ?_, ?_, trivial⟩ ?_
      · intro ac wx hf hb hd -- 0
        have f2 : ac.tmps[2]?.getD undef = .pointer (some ⟨w.heap.size, 0, none⟩) := by rw [← Array.getD_eq_getD_getElem?]; exact hf.same 2 (by decide)
        exact rstep_eq (by simp [execOp, Act.eval, f2, go_sem]) rfl
      · intro ac wx hf hb hd -- 1
        have d0 : ac.tmps[27]?.getD undef = .pointer (some ⟨w.heap.size, 0, none⟩) := by rw [← Array.getD_eq_getD_getElem?]; exact hd 0 (by decide)
        obtain ⟨c0, c1, c2, c3, e0, e1, e2, e3⟩ := HCR.out wx hb
        exact rstep_eq (by simp [execOp, Act.eval, d0, c0, go_sem]) rfl
      · intro ac wx hf hb hd -- 2
        have f5 : ac.tmps[5]?.getD undef = .int .i64 (k : Int) := by rw [← Array.getD_eq_getD_getElem?]; exact hf.same 5 (by decide)
        exact rstep_eq (by simp [execOp, Act.eval, f5, go_sem]) rfl
      · intro ac wx hf hb hd -- 3
        have d1 : ac.tmps[28]?.getD undef = .slice (some ⟨blk, off, none⟩) n c := by rw [← Array.getD_eq_getD_getElem?]; exact hd 1 (by decide)
        have d2 : ac.tmps[29]?.getD undef = .int .i64 (k : Int) := by rw [← Array.getD_eq_getD_getElem?]; exact hd 2 (by decide)
        exact rstep_eq (by simp [execOp, Act.eval, d1, d2, hki, hk0, go_sem]) rfl
      · intro ac wx hf hb hd -- 4
        have d3 : ac.tmps[30]?.getD undef = .pointer (some ⟨blk, off + k * 2, none⟩) := by rw [← Array.getD_eq_getD_getElem?]; exact hd 3 (by decide)
        obtain ⟨c0, c1, c2, c3, e0, e1, e2, e3⟩ := HCR.out wx hb
        exact rstep_eq (by simp [execOp, Act.eval, d3, e0, e1, go_sem]) rfl
      · intro ac wx hf hb hd -- 5
        have f3 : ac.tmps[3]?.getD undef = .pointer (some ⟨w.heap.size + 1, 0, none⟩) := by rw [← Array.getD_eq_getD_getElem?]; exact hf.same 3 (by decide)
        exact rstep_eq (by simp [execOp, Act.eval, f3, go_sem]) rfl
      · intro ac wx hf hb hd -- 6
        have d5 : ac.tmps[32]?.getD undef = .pointer (some ⟨w.heap.size + 1, 0, none⟩) := by rw [← Array.getD_eq_getD_getElem?]; exact hd 5 (by decide)
        obtain ⟨c0, c1, c2, c3, e0, e1, e2, e3⟩ := HCR.out wx hb
        exact rstep_eq (by simp [execOp, Act.eval, d5, c2, go_sem]) rfl
      · intro ac wx hf hb hd -- 7
        have f5 : ac.tmps[5]?.getD undef = .int .i64 (k : Int) := by rw [← Array.getD_eq_getD_getElem?]; exact hf.same 5 (by decide)
        exact rstep_eq (by simp [execOp, Act.eval, f5, go_sem]) rfl
      · intro ac wx hf hb hd -- 8
        have d6 : ac.tmps[33]?.getD undef = .slice (some ⟨blk', off', none⟩) n c' := by rw [← Array.getD_eq_getD_getElem?]; exact hd 6 (by decide)
        have d7 : ac.tmps[34]?.getD undef = .int .i64 (k : Int) := by rw [← Array.getD_eq_getD_getElem?]; exact hd 7 (by decide)
        exact rstep_eq (by simp [execOp, Act.eval, d6, d7, hki, hk0, go_sem]) rfl
      · intro ac wx hf hb hd -- 9
        have d8 : ac.tmps[35]?.getD undef = .pointer (some ⟨blk', off' + k * 2, none⟩) := by rw [← Array.getD_eq_getD_getElem?]; exact hd 8 (by decide)
        obtain ⟨c0, c1, c2, c3, e0, e1, e2, e3⟩ := HCR.out wx hb
        exact rstep_eq (by simp [execOp, Act.eval, d8, e2, e3, go_sem]) rfl
      · intro ac wx hf hb hd -- 10
        have d4 : ac.tmps[31]?.getD undef = .agg #[.int .i64 a, .int .i64 v] := by rw [← Array.getD_eq_getD_getElem?]; exact hd 4 (by decide)
        have d9 : ac.tmps[36]?.getD undef = .agg #[.int .i64 a, .int .i64 v] := by rw [← Array.getD_eq_getD_getElem?]; exact hd 9 (by decide)
        exact rstep_eq (by simp [execOp, Act.eval, d4, d9, eqArr2, go_sem]) rfl
      rintro ⟨⟨ll⟩, df⟩ wx hf hb hall
      have hdf : df = [] := hf.defers
      subst hdf
      have hsz : ll.length = 38 := hf.size
      obtain ⟨x0, ll0, rfl, hsz0⟩ := cons_of hsz
      obtain ⟨x1, ll1, rfl, hsz1⟩ := cons_of hsz0
      obtain ⟨x2, ll2, rfl, hsz2⟩ := cons_of hsz1
      obtain ⟨x3, ll3, rfl, hsz3⟩ := cons_of hsz2
      obtain ⟨x4, ll4, rfl, hsz4⟩ := cons_of hsz3
      obtain ⟨x5, ll5, rfl, hsz5⟩ := cons_of hsz4
      obtain ⟨x6, ll6, rfl, hsz6⟩ := cons_of hsz5
      obtain ⟨x7, ll7, rfl, hsz7⟩ := cons_of hsz6
      obtain ⟨x8, ll8, rfl, hsz8⟩ := cons_of hsz7
      obtain ⟨x9, ll9, rfl, hsz9⟩ := cons_of hsz8
      obtain ⟨x10, ll10, rfl, hsz10⟩ := cons_of hsz9
      obtain ⟨x11, ll11, rfl, hsz11⟩ := cons_of hsz10
      obtain ⟨x12, ll12, rfl, hsz12⟩ := cons_of hsz11
      obtain ⟨x13, ll13, rfl, hsz13⟩ := cons_of hsz12
      obtain ⟨x14, ll14, rfl, hsz14⟩ := cons_of hsz13
      obtain ⟨x15, ll15, rfl, hsz15⟩ := cons_of hsz14
      obtain ⟨x16, ll16, rfl, hsz16⟩ := cons_of hsz15
      obtain ⟨x17, ll17, rfl, hsz17⟩ := cons_of hsz16
      obtain ⟨x18, ll18, rfl, hsz18⟩ := cons_of hsz17
      obtain ⟨x19, ll19, rfl, hsz19⟩ := cons_of hsz18
      obtain ⟨x20, ll20, rfl, hsz20⟩ := cons_of hsz19
      obtain ⟨x21, ll21, rfl, hsz21⟩ := cons_of hsz20
      obtain ⟨x22, ll22, rfl, hsz22⟩ := cons_of hsz21
      obtain ⟨x23, ll23, rfl, hsz23⟩ := cons_of hsz22
      obtain ⟨x24, ll24, rfl, hsz24⟩ := cons_of hsz23
      obtain ⟨x25, ll25, rfl, hsz25⟩ := cons_of hsz24
      obtain ⟨x26, ll26, rfl, hsz26⟩ := cons_of hsz25
      obtain ⟨x27, ll27, rfl, hsz27⟩ := cons_of hsz26
      obtain ⟨x28, ll28, rfl, hsz28⟩ := cons_of hsz27
      obtain ⟨x29, ll29, rfl, hsz29⟩ := cons_of hsz28
      obtain ⟨x30, ll30, rfl, hsz30⟩ := cons_of hsz29
      obtain ⟨x31, ll31, rfl, hsz31⟩ := cons_of hsz30
      obtain ⟨x32, ll32, rfl, hsz32⟩ := cons_of hsz31
      obtain ⟨x33, ll33, rfl, hsz33⟩ := cons_of hsz32
      obtain ⟨x34, ll34, rfl, hsz34⟩ := cons_of hsz33
      obtain ⟨x35, ll35, rfl, hsz35⟩ := cons_of hsz34
      obtain ⟨x36, ll36, rfl, hsz36⟩ := cons_of hsz35
      obtain ⟨x37, ll37, rfl, hsz37⟩ := cons_of hsz36
      obtain rfl := List.eq_nil_of_length_eq_zero hsz37
      obtain rfl : x0 = _ := hf.same 0 (by decide)
      obtain rfl : x1 = _ := hf.same 1 (by decide)
      obtain rfl : x2 = .pointer (some ⟨w.heap.size, 0, none⟩) := hf.same 2 (by decide)
      obtain rfl : x3 = .pointer (some ⟨w.heap.size + 1, 0, none⟩) := hf.same 3 (by decide)
      obtain rfl : x4 = _ := hf.same 4 (by decide)
      obtain rfl : x5 = .int .i64 (k : Int) := hf.same 5 (by decide)
      obtain rfl : x6 = _ := hf.same 6 (by decide)
      obtain rfl : x7 = _ := hf.same 7 (by decide)
      obtain rfl : x8 = _ := hf.same 8 (by decide)
      obtain rfl : x9 = _ := hf.same 9 (by decide)
      obtain rfl : x10 = _ := hf.same 10 (by decide)
      obtain rfl : x11 = _ := hf.same 11 (by decide)
      obtain rfl : x12 = _ := hf.same 12 (by decide)
      obtain rfl : x13 = _ := hf.same 13 (by decide)
      obtain rfl : x14 = _ := hf.same 14 (by decide)
      obtain rfl : x15 = _ := hf.same 15 (by decide)
      obtain rfl : x16 = _ := hf.same 16 (by decide)
      obtain rfl : x17 = _ := hf.same 17 (by decide)
      obtain rfl : x18 = _ := hf.same 18 (by decide)
      obtain rfl : x19 = _ := hf.same 19 (by decide)
      obtain rfl : x20 = _ := hf.same 20 (by decide)
      obtain rfl : x21 = _ := hf.same 21 (by decide)
      obtain rfl : x22 = _ := hf.same 22 (by decide)
      obtain rfl : x23 = _ := hf.same 23 (by decide)
      obtain rfl : x24 = _ := hf.same 24 (by decide)
      obtain rfl : x25 = _ := hf.same 25 (by decide)
      obtain rfl : x26 = _ := hf.same 26 (by decide)
      obtain rfl : x27 = .pointer (some ⟨w.heap.size, 0, none⟩) := hall 0 27 rfl
      obtain rfl : x28 = .slice (some ⟨blk, off, none⟩) n c := hall 1 28 rfl
      obtain rfl : x29 = .int .i64 (k : Int) := hall 2 29 rfl
      obtain rfl : x30 = .pointer (some ⟨blk, off + k * 2, none⟩) := hall 3 30 rfl
      obtain rfl : x31 = .agg #[.int .i64 a, .int .i64 v] := hall 4 31 rfl
      obtain rfl : x32 = .pointer (some ⟨w.heap.size + 1, 0, none⟩) := hall 5 32 rfl
      obtain rfl : x33 = .slice (some ⟨blk', off', none⟩) n c' := hall 6 33 rfl
      obtain rfl : x34 = .int .i64 (k : Int) := hall 7 34 rfl
      obtain rfl : x35 = .pointer (some ⟨blk', off' + k * 2, none⟩) := hall 8 35 rfl
      obtain rfl : x36 = .agg #[.int .i64 a, .int .i64 v] := hall 9 36 rfl
      obtain rfl : x37 = .bool false := hall 10 37 rfl
      clear hall hf
      have HB1 := Lib.hid (HB.out.trans (hb.mono HB.out.size))
      clear hb
      go_wp2
      go_roundw
      case rel => exact ⟨k + 1, by omega, by go_num, HB1.out⟩
      case measure => simp [intOf]; omega
    · obtain rfl : k = n := by omega
      go_wp2
      go_ret
      exact ⟨rfl, HBW.out⟩
end Go.Proofs.Ytageiimcmnebmaa
