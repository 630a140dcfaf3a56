/- Walks over beams: burdens. -/
import Derived.Test.YtablphoicidlkaaSD
namespace Go.Proofs.Ytablphoicidlkaa
open Go.RowKit

set_option maxHeartbeats 8000000 in
set_option maxRecDepth 20000 in
theorem checkBurden_any {b : Bm} {A : Option Addr} {n c : Nat} {S : Int} {l : List Pt} (w : World) (h : PtRow w A n l) (hn : n ≤ maxLen) :
    Calls Try.prog 26 #[bmV b, buV A n c S] w fun e w' => e = .returned (.int .i64 (burE b l S)) ∧ Below w.heap.size w w' := by
  obtain ⟨s, ww, t, en⟩ := b
  have HR := Lib.hid h
  clear h
  have C1 := fun wx => Lib.hid (checkBeam_any ⟨s, ww, t, en⟩ wx)
  have C2 := fun wx (hb : Below w.heap.size w wx) => Lib.hid (checkWeights_any (c := c) (S := S) (span := s) wx (HR.out.below hb) hn)
  unfold burE
  simp only
  unfold bmV buV at *
  simp only at C1 ⊢
  generalize beamE ⟨s, ww, t, en⟩ = e1 at C1 ⊢
  generalize wtsE s l S = e2 at C2 ⊢
  have C3 := fun wx b (h : IntRow wx (some ⟨b, 0, none⟩) 2 [e1, e2]) => Lib.hid (firstError_any (c := 2) wx h (by decide))
  generalize firstE [e1, e2] = e3 at C3 ⊢
  go_enter Try.func26, Try.ntmps26
  go_wp2
  obtain ⟨w0, hw0⟩ : ∃ w0, ((w.alloc (.cells #[.int .i64 s, .int .i64 ww, .int .i64 t, .int .i64 en] 23)).alloc (.cells #[.slice A n c, .int .i64 S] 26)) = w0 := ⟨_, rfl⟩
  have HB0 : Hid (Below w.heap.size w w0) := Lib.hid (by rw [← hw0]; exact (((Below.refl _ _).alloc (Nat.le_refl _) _).alloc (by simp; try omega) _))
  have HC := Lib.hid (fun wx (hb : Below w0.heap.size w0 wx) => (show wx.cell? ⟨w.heap.size, 0, none⟩ = some (.int .i64 s) ∧ wx.cell? ⟨w.heap.size, 1, none⟩ = some (.int .i64 ww) ∧ wx.cell? ⟨w.heap.size, 2, none⟩ = some (.int .i64 t) ∧ wx.cell? ⟨w.heap.size, 3, none⟩ = some (.int .i64 en) ∧ wx.cell? ⟨w.heap.size + 1, 0, none⟩ = some (.slice A n c) ∧ wx.cell? ⟨w.heap.size + 1, 1, none⟩ = some (.int .i64 S) from by
    subst hw0
    obtain ⟨k, kf⟩ := bcell hb
    exact ⟨(k _ _ (by simp; try omega)).trans (by simp [go_sem]), (k _ _ (by simp; try omega)).trans (by simp [go_sem]), (k _ _ (by simp; try omega)).trans (by simp [go_sem]), (k _ _ (by simp; try omega)).trans (by simp [go_sem]), (k _ _ (by simp; try omega)).trans (by simp [go_sem]), (k _ _ (by simp; try omega)).trans (by simp [go_sem])⟩))
  rw [hw0]
  clear hw0
  refine wp_region_rk [5, 6, 7, 8, 9, 10, 11, 12, 4] [rEq (.agg #[.int .i64 s, .int .i64 ww, .int .i64 t, .int .i64 en]), rEq (.int .i64 e1), rEq (.agg #[.slice A n c, .int .i64 S]), rEq (.pointer (some ⟨w.heap.size, 0, none⟩)), rEq (.int .i64 s), rEq (.int .i64 e2), rRow [e1, e2] 2, rEq (.int .i64 e3), rEq (.int .i64 e3)] (by kernel_rfl) (by kernel_rfl) (by decide) rfl ⟨?_, ?_, ?_, ?_, ?_, ?_, ?_, ?_, ?_, trivial⟩ ?_
  · intro ac wx hf hb hd -- 0
    have f2 : ac.tmps[2]?.getD undef = .pointer (some ⟨w.heap.size, 0, none⟩) := by rw [← Array.getD_eq_getD_getElem?]; exact hf.same 2 (by decide)
    obtain ⟨c0, c1, c2, c3, c4, c5⟩ := HC.out wx hb
    exact rstep_eq (by simp [execOp, Act.eval, f2, c0, c1, c2, c3, go_sem]) rfl
  · intro ac wx hf hb hd -- 1
    have d0 : ac.tmps[5]?.getD undef = .agg #[.int .i64 s, .int .i64 ww, .int .i64 t, .int .i64 en] := by rw [← Array.getD_eq_getD_getElem?]; exact hd 0 (by decide)
    refine rstep_call (f := 24) (args := #[.agg #[.int .i64 s, .int .i64 ww, .int .i64 t, .int .i64 en]]) (by simp [Act.eval, d0, go_sem]) ?_ rfl
    exact (C1 wx).out
  · intro ac wx hf hb hd -- 2
    have f3 : ac.tmps[3]?.getD undef = .pointer (some ⟨w.heap.size + 1, 0, none⟩) := by rw [← Array.getD_eq_getD_getElem?]; exact hf.same 3 (by decide)
    obtain ⟨c0, c1, c2, c3, c4, c5⟩ := HC.out wx hb
    exact rstep_eq (by simp [execOp, Act.eval, f3, c4, c5, go_sem]) rfl
  · intro ac wx hf hb hd -- 3
    have f2 : ac.tmps[2]?.getD undef = .pointer (some ⟨w.heap.size, 0, none⟩) := by rw [← Array.getD_eq_getD_getElem?]; exact hf.same 2 (by decide)
    exact rstep_eq (by simp [execOp, Act.eval, f2, go_sem]) rfl
  · intro ac wx hf hb hd -- 4
    have d3 : ac.tmps[8]?.getD undef = .pointer (some ⟨w.heap.size, 0, none⟩) := by rw [← Array.getD_eq_getD_getElem?]; exact hd 3 (by decide)
    obtain ⟨c0, c1, c2, c3, c4, c5⟩ := HC.out wx hb
    exact rstep_eq (by simp [execOp, Act.eval, d3, c0, go_sem]) rfl
  · intro ac wx hf hb hd -- 5
    have d2 : ac.tmps[7]?.getD undef = .agg #[.slice A n c, .int .i64 S] := by rw [← Array.getD_eq_getD_getElem?]; exact hd 2 (by decide)
    have d4 : ac.tmps[9]?.getD undef = .int .i64 s := by rw [← Array.getD_eq_getD_getElem?]; exact hd 4 (by decide)
    refine rstep_call (f := 97) (args := #[.agg #[.slice A n c, .int .i64 S], .int .i64 s]) (by simp [Act.eval, d2, d4, go_sem]) ?_ rfl
    exact (C2 wx (HB0.out.trans (hb.mono HB0.out.size))).out
  · intro ac wx hf hb hd -- 6
    have d1 : ac.tmps[6]?.getD undef = .int .i64 e1 := by rw [← Array.getD_eq_getD_getElem?]; exact hd 1 (by decide)
    have d5 : ac.tmps[10]?.getD undef = .int .i64 e2 := by rw [← Array.getD_eq_getD_getElem?]; exact hd 5 (by decide)
    exact rstep_row (t := 31) (zs := [e1, e2]) rfl rfl (by simp [execOp, Act.eval, d1, d5, go_sem]) rfl
  · intro ac wx hf hb hd -- 7
    obtain ⟨b6, d6, r6⟩ : ∃ b, ac.tmps[11]?.getD undef = .slice (some ⟨b, 0, none⟩) 2 2 ∧ IntRow wx (some ⟨b, 0, none⟩) 2 [e1, e2] := by rw [← Array.getD_eq_getD_getElem?]; exact hd 6 (by decide)
    refine rstep_call (f := 95) (args := #[.slice (some ⟨b6, 0, none⟩) 2 2]) (by simp [Act.eval, d6, go_sem]) ?_ rfl
    exact (C3 wx b6 r6).out.mono fun e w' ⟨he, hw⟩ => ⟨he, hw ▸ Below.refl _ _⟩
  · intro ac wx hf hb hd -- 8
    have d7 : ac.tmps[12]?.getD undef = .int .i64 e3 := by rw [← Array.getD_eq_getD_getElem?]; exact hd 7 (by decide)
    exact rstep_eq (by simp [execOp, Act.eval, d7, go_sem]) rfl
  rintro ⟨⟨ll⟩, df⟩ wx hf hb hall
  have hdf : df = [] := hf.defers
  subst hdf
  have hsz : ll.length = 13 := hf.size
  obtain ⟨x0, ll0, rfl, hsz0⟩ := cons_of hsz
  obtain ⟨x1, ll1, rfl, hsz1⟩ := cons_of hsz0
  obtain ⟨x2, ll2, rfl, hsz2⟩ := cons_of hsz1
  obtain ⟨x3, ll3, rfl, hsz3⟩ := cons_of hsz2
  obtain ⟨x4, ll4, rfl, hsz4⟩ := cons_of hsz3
  obtain ⟨x5, ll5, rfl, hsz5⟩ := cons_of hsz4
  obtain ⟨x6, ll6, rfl, hsz6⟩ := cons_of hsz5
  obtain ⟨x7, ll7, rfl, hsz7⟩ := cons_of hsz6
  obtain ⟨x8, ll8, rfl, hsz8⟩ := cons_of hsz7
  obtain ⟨x9, ll9, rfl, hsz9⟩ := cons_of hsz8
  obtain ⟨x10, ll10, rfl, hsz10⟩ := cons_of hsz9
  obtain ⟨x11, ll11, rfl, hsz11⟩ := cons_of hsz10
  obtain ⟨x12, ll12, rfl, hsz12⟩ := cons_of hsz11
  obtain rfl := List.eq_nil_of_length_eq_zero hsz12
  obtain rfl : x0 = _ := hf.same 0 (by decide)
  obtain rfl : x1 = _ := hf.same 1 (by decide)
  obtain rfl : x2 = .pointer (some ⟨w.heap.size, 0, none⟩) := hf.same 2 (by decide)
  obtain rfl : x3 = .pointer (some ⟨w.heap.size + 1, 0, none⟩) := hf.same 3 (by decide)
  obtain rfl : x4 = .int .i64 e3 := hall 8 4 rfl
  obtain rfl : x5 = .agg #[.int .i64 s, .int .i64 ww, .int .i64 t, .int .i64 en] := hall 0 5 rfl
  obtain rfl : x6 = .int .i64 e1 := hall 1 6 rfl
  obtain rfl : x7 = .agg #[.slice A n c, .int .i64 S] := hall 2 7 rfl
  obtain rfl : x8 = .pointer (some ⟨w.heap.size, 0, none⟩) := hall 3 8 rfl
  obtain rfl : x9 = .int .i64 s := hall 4 9 rfl
  obtain rfl : x10 = .int .i64 e2 := hall 5 10 rfl
  obtain rfl : x12 = .int .i64 e3 := hall 7 12 rfl
  clear hall hf
  go_wp2
  go_ret
  exact ⟨rfl, HB0.out.trans (hb.mono HB0.out.size)⟩
end Go.Proofs.Ytablphoicidlkaa
