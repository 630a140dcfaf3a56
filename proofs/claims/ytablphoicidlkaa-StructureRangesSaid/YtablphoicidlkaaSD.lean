/- Walks over beams: burdens and places. -/
import Derived.Test.YtablphoicidlkaaSC
namespace Go.Proofs.Ytablphoicidlkaa
open Go.RowKit

def PtAt (w : World) (blk off : Nat) (x : Pt) : Prop := w.cell? ⟨blk, off, none⟩ = some (.int .i64 x.a) ∧ w.cell? ⟨blk, off + 1, none⟩ = some (.int .i64 x.n)
theorem PtAt.below {w w' : World} {B blk off : Nat} {s : Pt} (h : PtAt w blk off s) (hb : Below B w w') (hlt : blk < B) : PtAt w' blk off s :=
  ⟨(hb.cell (p := ⟨blk, off, none⟩) hlt).trans h.1, (hb.cell (p := ⟨blk, off + 1, none⟩) hlt).trans h.2⟩
abbrev PtRow (w : World) (A : Option Addr) (n : Nat) (l : List Pt) : Prop := RowOf (PtAt w) 2 A n l w.heap.size
theorem PtRow.below {w w' : World} {A : Option Addr} {n : Nat} {l : List Pt} (h : PtRow w A n l) (hb : Below w.heap.size w w') : PtRow w' A n l :=
  RowOf.keep h hb.size (fun _ _ _ hlt hx => PtAt.below hx hb hlt)
def buV (A : Option Addr) (n c : Nat) (S : Int) : Value := .agg #[.slice A n c, .int .i64 S]

set_option maxHeartbeats 400000 in
theorem checkPlace_any (b : Bm) (x : Int) (w : World) : Calls Try.prog 99 #[bmV b, .int .i64 x] w fun e w' => e = .returned (.int .i64 (rngE 0 b.s [x])) ∧ Below w.heap.size w w' := by
  obtain ⟨s, ww, t, en⟩ := b
  unfold bmV
  simp only
  go_enter Try.func99, Try.ntmps99
  go_wp2_with (go_at_call 96; (refine (checkNew_any _ _ (by simp)).mono ?_); rintro e w' ⟨rfl, hb⟩)
  go_ret
  exact ⟨rfl, ((Below.refl _ _).alloc (Nat.le_refl _) _).trans (hb.mono (by simp))⟩

theorem any_takeP {α : Type} (p : α → Bool) (zs : List α) (k : Nat) (h : k < zs.length) (h0 : (zs.take k).any p = false) (h1 : p zs[k] = false) : (zs.take (k + 1)).any p = false := by
  rw [List.take_succ_eq_append_getElem h, List.any_append, h0]; simp [h1]
theorem any_atP {α : Type} (p : α → Bool) (zs : List α) (k : Nat) (h : k < zs.length) (h1 : p zs[k] = true) : zs.any p = true := List.any_eq_true.2 ⟨_, List.getElem_mem h, h1⟩
set_option maxHeartbeats 8000000 in
set_option maxRecDepth 20000 in
theorem checkWeights_any {A : Option Addr} {n c : Nat} {S span : Int} {l : List Pt} (w : World) (h : PtRow w A n l) (hn : n ≤ maxLen) :
    Calls Try.prog 97 #[buV A n c S, .int .i64 span] w fun e w' => e = .returned (.int .i64 (wtsE span l S)) ∧ Below w.heap.size w w' := by
  unfold buV maxLen at *
  have HR := Lib.hid h
  have hle : l.length ≤ n := by have := h.1; omega
  have hge : n ≤ l.length := by have := h.1; omega
  have HL := Lib.hid h.1
  clear h
  by_cases h8 : 8 < n
  · have hd : decide (8 < n) = true := decide_eq_true h8
    have hd' : (8 : Int) < (n : Int) := by omega
    go_enter Try.func97, Try.ntmps97
    go_wp2
    go_ret
    exact ⟨ret_int (by unfold wtsE; rw [decide_eq_true (by omega)]; rfl), (Below.refl _ _).alloc (Nat.le_refl _) _⟩
  · have hd' : ¬ (8 : Int) < (n : Int) := by omega
    go_enter Try.func97, Try.ntmps97
    go_wp2
    go_loopw [15] (fun i wr => ∃ k : Nat, k ≤ n ∧ i = .int .i64 k ∧ (l.take k).any (fun p => ptE span p != 0) = false ∧ Below w.heap.size w wr ∧ wr.cell? ⟨w.heap.size, 1, none⟩ = some (.int .i64 S)) (fun i _ => n - (intOf i).toNat)
    case atStart => exact ⟨0, Nat.zero_le _, rfl, rfl, (Below.refl _ _).alloc (Nat.le_refl _) _, by simp [go_sem]⟩
    case round =>
      obtain ⟨k, hk, rfl, hno, hbw, hcS⟩ := hrel
      have H := Lib.hid hno
      have HB := Lib.hid hbw
      have HS := Lib.hid hcS
      clear hno hbw
      by_cases hlt : k < n
      · have hkl : k < l.length := by omega
        obtain ⟨blk, off, rfl, hb, hx⟩ := HR.out.2 (by omega)
        obtain ⟨hc0, hc1⟩ := (hx k hkl).below HB.out hb
        have HT := Lib.hid (any_takeP (fun p => ptE span p != 0) l k hkl H.out)
        have HA := Lib.hid (any_atP (fun p => ptE span p != 0) l k hkl)
        obtain ⟨x, hxe⟩ : ∃ x, l[k] = x := ⟨_, rfl⟩
        rw [hxe] at hc0 hc1 HT HA
        clear hxe hx
        obtain ⟨a, v⟩ := x
        simp only at hc0 hc1
        have C1 := fun wx b (h : IntRow wx (some ⟨b, 0, none⟩) 1 [a]) => Lib.hid (checkRange_any (c := 1) (lo := 0) (hi := span) wx h (by decide))
        have C2 := fun wx b (h : IntRow wx (some ⟨b, 0, none⟩) 1 [v]) => Lib.hid (checkRange_any (c := 1) (lo := -2000) (hi := 2000) wx h (by decide))
        have HE : Hid (ptE span ⟨a, v⟩ = firstE [rngE 0 span [a], rngE (-2000) 2000 [v]]) := Lib.hid rfl
        generalize rngE 0 span [a] = e1 at C1 HE ⊢
        generalize rngE (-2000) 2000 [v] = e2 at C2 HE ⊢
        have C3 := fun wx b (h : IntRow wx (some ⟨b, 0, none⟩) 2 [e1, e2]) => Lib.hid (firstError_any (c := 2) wx h (by decide))
        generalize firstE [e1, e2] = e3 at C3 HE ⊢
        have h2 := ptE_two span ⟨a, v⟩
        rw [HE.out] at h2
        have H2 := Lib.hid h2
        clear h2
        go_wp2
        obtain ⟨w0, hw0⟩ : ∃ w0, wr.alloc (.cells #[.int .i64 a, .int .i64 v] 90) = w0 := ⟨_, rfl⟩
        have HB0 : Hid (Below wr.heap.size wr w0) := Lib.hid (by rw [← hw0]; exact (Below.refl _ _).alloc (Nat.le_refl _) _)
        have HC := Lib.hid (fun wx (hb : Below w0.heap.size w0 wx) => (show wx.cell? ⟨wr.heap.size, 0, none⟩ = some (.int .i64 a) ∧ wx.cell? ⟨wr.heap.size, 1, none⟩ = some (.int .i64 v) from by
          subst hw0
          have k := (bcell hb).1
          exact ⟨(k _ _ (by simp)).trans (by rw [World.cell?_alloc_new]; rfl), (k _ _ (by simp)).trans (by rw [World.cell?_alloc_new]; rfl)⟩))
        rw [hw0]
        clear hw0 hc0 hc1
        refine wp_region_rk [19, 20, 21, 22, 23, 24, 25, 26, 27, 28, 29, 7] [rEq (.int .i64 span), rEq (.pointer (some ⟨wr.heap.size, 0, none⟩)), rEq (.int .i64 a), rRow [a] 1, rEq (.int .i64 e1), rEq (.pointer (some ⟨wr.heap.size, 1, none⟩)), rEq (.int .i64 v), rRow [v] 1, rEq (.int .i64 e2), rRow [e1, e2] 2, rEq (.int .i64 e3), rEq (.int .i64 e3)] (by kernel_rfl) (by kernel_rfl) (by decide) rfl ⟨?_, ?_, ?_, ?_, ?_, ?_, ?_, ?_, ?_, ?_, ?_, ?_, trivial⟩ ?_
        · intro ac wx hf hb hd -- 0
          have f1 : ac.tmps[1]?.getD undef = .int .i64 span := by rw [← Array.getD_eq_getD_getElem?]; exact hf.same 1 (by decide)
          exact rstep_eq (by simp [execOp, Act.eval, f1, go_sem]) rfl
        · intro ac wx hf hb hd -- 1
          have f6 : ac.tmps[6]?.getD undef = .pointer (some ⟨wr.heap.size, 0, none⟩) := by rw [← Array.getD_eq_getD_getElem?]; exact hf.same 6 (by decide)
          exact rstep_eq (by simp [execOp, Act.eval, f6, go_sem]) rfl
        · intro ac wx hf hb hd -- 2
          have d1 : ac.tmps[20]?.getD undef = .pointer (some ⟨wr.heap.size, 0, none⟩) := by rw [← Array.getD_eq_getD_getElem?]; exact hd 1 (by decide)
          obtain ⟨c0, c1⟩ := HC.out wx hb
          exact rstep_eq (by simp [execOp, Act.eval, d1, c0, go_sem]) rfl
        · intro ac wx hf hb hd -- 3
          have d2 : ac.tmps[21]?.getD undef = .int .i64 a := by rw [← Array.getD_eq_getD_getElem?]; exact hd 2 (by decide)
          exact rstep_row (t := 3) (zs := [a]) rfl rfl (by simp [execOp, Act.eval, d2, go_sem]) rfl
        · intro ac wx hf hb hd -- 4
          have d0 : ac.tmps[19]?.getD undef = .int .i64 span := by rw [← Array.getD_eq_getD_getElem?]; exact hd 0 (by decide)
          obtain ⟨b3, d3, r3⟩ : ∃ b, ac.tmps[22]?.getD undef = .slice (some ⟨b, 0, none⟩) 1 1 ∧ IntRow wx (some ⟨b, 0, none⟩) 1 [a] := by rw [← Array.getD_eq_getD_getElem?]; exact hd 3 (by decide)
          refine rstep_call (f := 96) (args := #[.int .i64 0, .int .i64 span, .slice (some ⟨b3, 0, none⟩) 1 1]) (by simp [Act.eval, d0, d3, go_sem]) ?_ rfl
          exact (C1 wx b3 r3).out.mono fun e w' ⟨he, hw⟩ => ⟨he, hw ▸ Below.refl _ _⟩
        · intro ac wx hf hb hd -- 5
          have f6 : ac.tmps[6]?.getD undef = .pointer (some ⟨wr.heap.size, 0, none⟩) := by rw [← Array.getD_eq_getD_getElem?]; exact hf.same 6 (by decide)
          exact rstep_eq (by simp [execOp, Act.eval, f6, go_sem]) rfl
        · intro ac wx hf hb hd -- 6
          have d5 : ac.tmps[24]?.getD undef = .pointer (some ⟨wr.heap.size, 1, none⟩) := by rw [← Array.getD_eq_getD_getElem?]; exact hd 5 (by decide)
          obtain ⟨c0, c1⟩ := HC.out wx hb
          exact rstep_eq (by simp [execOp, Act.eval, d5, c1, go_sem]) rfl
        · intro ac wx hf hb hd -- 7
          have d6 : ac.tmps[25]?.getD undef = .int .i64 v := by rw [← Array.getD_eq_getD_getElem?]; exact hd 6 (by decide)
          exact rstep_row (t := 3) (zs := [v]) rfl rfl (by simp [execOp, Act.eval, d6, go_sem]) rfl
        · intro ac wx hf hb hd -- 8
          obtain ⟨b7, d7, r7⟩ : ∃ b, ac.tmps[26]?.getD undef = .slice (some ⟨b, 0, none⟩) 1 1 ∧ IntRow wx (some ⟨b, 0, none⟩) 1 [v] := by rw [← Array.getD_eq_getD_getElem?]; exact hd 7 (by decide)
          refine rstep_call (f := 96) (args := #[.int .i64 (-2000), .int .i64 2000, .slice (some ⟨b7, 0, none⟩) 1 1]) (by simp [Act.eval, d7, go_sem]) ?_ rfl
          exact (C2 wx b7 r7).out.mono fun e w' ⟨he, hw⟩ => ⟨he, hw ▸ Below.refl _ _⟩
        · intro ac wx hf hb hd -- 9
          have d4 : ac.tmps[23]?.getD undef = .int .i64 e1 := by rw [← Array.getD_eq_getD_getElem?]; exact hd 4 (by decide)
          have d8 : ac.tmps[27]?.getD undef = .int .i64 e2 := by rw [← Array.getD_eq_getD_getElem?]; exact hd 8 (by decide)
          exact rstep_row (t := 31) (zs := [e1, e2]) rfl rfl (by simp [execOp, Act.eval, d4, d8, go_sem]) rfl
        · intro ac wx hf hb hd -- 10
          obtain ⟨b9, d9, r9⟩ : ∃ b, ac.tmps[28]?.getD undef = .slice (some ⟨b, 0, none⟩) 2 2 ∧ IntRow wx (some ⟨b, 0, none⟩) 2 [e1, e2] := by rw [← Array.getD_eq_getD_getElem?]; exact hd 9 (by decide)
          refine rstep_call (f := 95) (args := #[.slice (some ⟨b9, 0, none⟩) 2 2]) (by simp [Act.eval, d9, go_sem]) ?_ rfl
          exact (C3 wx b9 r9).out.mono fun e w' ⟨he, hw⟩ => ⟨he, hw ▸ Below.refl _ _⟩
        · intro ac wx hf hb hd -- 11
          have d10 : ac.tmps[29]?.getD undef = .int .i64 e3 := by rw [← Array.getD_eq_getD_getElem?]; exact hd 10 (by decide)
          exact rstep_eq (by simp [execOp, Act.eval, d10, go_sem]) rfl
        rintro ⟨⟨ll⟩, df⟩ wx hf hb hall
        have hdf : df = [] := hf.defers
        subst hdf
        have hsz : ll.length = 38 := hf.size
        obtain ⟨x0, ll0, rfl, hsz0⟩ := cons_of hsz
        obtain ⟨x1, ll1, rfl, hsz1⟩ := cons_of hsz0
        obtain ⟨x2, ll2, rfl, hsz2⟩ := cons_of hsz1
        obtain ⟨x3, ll3, rfl, hsz3⟩ := cons_of hsz2
        obtain ⟨x4, ll4, rfl, hsz4⟩ := cons_of hsz3
        obtain ⟨x5, ll5, rfl, hsz5⟩ := cons_of hsz4
        obtain ⟨x6, ll6, rfl, hsz6⟩ := cons_of hsz5
        obtain ⟨x7, ll7, rfl, hsz7⟩ := cons_of hsz6
        obtain ⟨x8, ll8, rfl, hsz8⟩ := cons_of hsz7
        obtain ⟨x9, ll9, rfl, hsz9⟩ := cons_of hsz8
        obtain ⟨x10, ll10, rfl, hsz10⟩ := cons_of hsz9
        obtain ⟨x11, ll11, rfl, hsz11⟩ := cons_of hsz10
        obtain ⟨x12, ll12, rfl, hsz12⟩ := cons_of hsz11
        obtain ⟨x13, ll13, rfl, hsz13⟩ := cons_of hsz12
        obtain ⟨x14, ll14, rfl, hsz14⟩ := cons_of hsz13
        obtain ⟨x15, ll15, rfl, hsz15⟩ := cons_of hsz14
        obtain ⟨x16, ll16, rfl, hsz16⟩ := cons_of hsz15
        obtain ⟨x17, ll17, rfl, hsz17⟩ := cons_of hsz16
        obtain ⟨x18, ll18, rfl, hsz18⟩ := cons_of hsz17
        obtain ⟨x19, ll19, rfl, hsz19⟩ := cons_of hsz18
        obtain ⟨x20, ll20, rfl, hsz20⟩ := cons_of hsz19
        obtain ⟨x21, ll21, rfl, hsz21⟩ := cons_of hsz20
        obtain ⟨x22, ll22, rfl, hsz22⟩ := cons_of hsz21
        obtain ⟨x23, ll23, rfl, hsz23⟩ := cons_of hsz22
        obtain ⟨x24, ll24, rfl, hsz24⟩ := cons_of hsz23
        obtain ⟨x25, ll25, rfl, hsz25⟩ := cons_of hsz24
        obtain ⟨x26, ll26, rfl, hsz26⟩ := cons_of hsz25
        obtain ⟨x27, ll27, rfl, hsz27⟩ := cons_of hsz26
        obtain ⟨x28, ll28, rfl, hsz28⟩ := cons_of hsz27
        obtain ⟨x29, ll29, rfl, hsz29⟩ := cons_of hsz28
        obtain ⟨x30, ll30, rfl, hsz30⟩ := cons_of hsz29
        obtain ⟨x31, ll31, rfl, hsz31⟩ := cons_of hsz30
        obtain ⟨x32, ll32, rfl, hsz32⟩ := cons_of hsz31
        obtain ⟨x33, ll33, rfl, hsz33⟩ := cons_of hsz32
        obtain ⟨x34, ll34, rfl, hsz34⟩ := cons_of hsz33
        obtain ⟨x35, ll35, rfl, hsz35⟩ := cons_of hsz34
        obtain ⟨x36, ll36, rfl, hsz36⟩ := cons_of hsz35
        obtain ⟨x37, ll37, rfl, hsz37⟩ := cons_of hsz36
        obtain rfl := List.eq_nil_of_length_eq_zero hsz37
        obtain rfl : x0 = _ := hf.same 0 (by decide)
        obtain rfl : x1 = .int .i64 span := hf.same 1 (by decide)
        obtain rfl : x2 = _ := hf.same 2 (by decide)
        obtain rfl : x3 = _ := hf.same 3 (by decide)
        obtain rfl : x4 = _ := hf.same 4 (by decide)
        obtain rfl : x5 = _ := hf.same 5 (by decide)
        obtain rfl : x6 = .pointer (some ⟨wr.heap.size, 0, none⟩) := hf.same 6 (by decide)
        obtain rfl : x7 = .int .i64 e3 := hall 11 7 rfl
        obtain rfl : x8 = _ := hf.same 8 (by decide)
        obtain rfl : x9 = _ := hf.same 9 (by decide)
        obtain rfl : x10 = _ := hf.same 10 (by decide)
        obtain rfl : x11 = _ := hf.same 11 (by decide)
        obtain rfl : x12 = _ := hf.same 12 (by decide)
        obtain rfl : x13 = _ := hf.same 13 (by decide)
        obtain rfl : x14 = _ := hf.same 14 (by decide)
        obtain rfl : x15 = _ := hf.same 15 (by decide)
        obtain rfl : x16 = _ := hf.same 16 (by decide)
        obtain rfl : x17 = _ := hf.same 17 (by decide)
        obtain rfl : x18 = _ := hf.same 18 (by decide)
        obtain rfl : x19 = .int .i64 span := hall 0 19 rfl
        obtain rfl : x20 = .pointer (some ⟨wr.heap.size, 0, none⟩) := hall 1 20 rfl
        obtain rfl : x21 = .int .i64 a := hall 2 21 rfl
        obtain rfl : x23 = .int .i64 e1 := hall 4 23 rfl
        obtain rfl : x24 = .pointer (some ⟨wr.heap.size, 1, none⟩) := hall 5 24 rfl
        obtain rfl : x25 = .int .i64 v := hall 6 25 rfl
        obtain rfl : x27 = .int .i64 e2 := hall 8 27 rfl
        obtain rfl : x29 = .int .i64 e3 := hall 10 29 rfl
        obtain rfl : x30 = _ := hf.same 30 (by decide)
        obtain rfl : x31 = _ := hf.same 31 (by decide)
        obtain rfl : x32 = _ := hf.same 32 (by decide)
        obtain rfl : x33 = _ := hf.same 33 (by decide)
        obtain rfl : x34 = _ := hf.same 34 (by decide)
        obtain rfl : x35 = _ := hf.same 35 (by decide)
        obtain rfl : x36 = _ := hf.same 36 (by decide)
        obtain rfl : x37 = _ := hf.same 37 (by decide)
        clear hall hf
        have HBX := Lib.hid (HB.out.trans ((HB0.out.trans (hb.mono HB0.out.size)).mono HB.out.size))
        have hS' : wx.cell? ⟨w.heap.size, 1, none⟩ = some (.int .i64 S) := ((bcell (HB0.out.trans (hb.mono HB0.out.size))).1 _ _ (World.block_lt_of_cell? wr _ hcS)).trans hcS
        clear hb
        rcases H2.out with rfl | rfl
        · go_wp2
          go_roundw
          case rel => exact ⟨k + 1, by omega, by go_num, HT.out (by rw [HE.out]; rfl), HBX.out, hS'⟩
          case measure => simp [intOf]; omega
        · go_wp2
          go_ret
          exact ⟨ret_int (by unfold wtsE; rw [decide_eq_false (by omega), HA.out (by rw [HE.out]; rfl)]; rfl), HBX.out⟩
      · go_wp2_with (go_at_call 96; (refine (checkNew_any _ _ (by simp)).mono ?_); rintro e w' ⟨rfl, hb⟩)
        go_ret
        exact ⟨ret_int (by unfold wtsE; have := H.out; rw [List.take_of_length_le (by omega)] at this; rw [this, decide_eq_false (by omega)]; rfl), HB.out.trans (hb.mono HB.out.size)⟩
end Go.Proofs.Ytablphoicidlkaa
