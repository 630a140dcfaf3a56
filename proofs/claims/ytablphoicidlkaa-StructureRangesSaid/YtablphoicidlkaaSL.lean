/- Walks over beams: the terms of a sag; the greatest moment and sag. -/
import Derived.Test.YtablphoicidlkaaSK
namespace Go.Proofs.Ytablphoicidlkaa
open Go.RowKit

theorem below_grown5 {a w : World} (h : Below a.heap.size a w) : a.grownBy w none := ⟨h.os, h.tape, h.output, h.size, fun i hi _ => h.block i hi⟩
theorem own_ne (v : Value) : v.ownBlock = none ∨ v.ownBlock ≠ none := by
  by_cases h : v.ownBlock = none
  · exact .inl h
  · exact .inr h
def SgOut (b : Bm) (l : List Pt) (S x : Int) (w : World) (e : Ending) (w' : World) : Prop := ∃ (A : Option Addr) (m c : Nat) (zs : List Int), e = .returned (.slice A m c) ∧ IntRow w' A m zs ∧ m ≤ 1000 ∧ sumL id zs = sag b l S x ∧ Below w.heap.size w w'
set_option maxHeartbeats 8000000 in
set_option maxRecDepth 20000 in
theorem sagTerms_any {b : Bm} {A : Option Addr} {n c : Nat} {S x : Int} {l : List Pt} (hb : BmOk b) (hl : WtOk b.s l S) (x0 : 0 ≤ x) (x1 : x ≤ b.s) (w : World) (h : PtRow w A n l) :
    Calls Try.prog 148 #[bmV b, buV A n c S, .int .i64 x] w (SgOut b l S x w) := by
  have HR := Lib.hid h
  have hle : l.length ≤ n := by have := h.1; omega
  have hge : n ≤ l.length := by have := h.1; omega
  have hn8 : n ≤ 8 := by have := hl.len; omega
  have HWT := Lib.hid hl
  have SP := fun wx => Lib.hid (sagOfSpread_any hb hl.S0 hl.S1 x0 x1 wx)
  have PT := fun (p : Pt) (hp : PtOk b.s p) wx => Lib.hid (sagOfPoint_any hb hp x0 x1 wx)
  have HT : Hid (∀ zs : List Int, sumL id zs = spS b S x + sumL (ptS b x) (l.take n) → sumL id zs = sag b l S x) := Lib.hid (fun zs hz => by rw [hz, List.take_of_length_le hle]; rfl)
  clear h hb hl
  have hbv : bmV b = .agg #[.int .i64 b.s, .int .i64 b.w, .int .i64 b.t, .int .i64 b.e] := rfl
  unfold buV at *
  rw [hbv] at SP PT ⊢
  clear hbv
  obtain ⟨r0, hr0⟩ : ∃ y, spS b S x = y := ⟨_, rfl⟩
  rw [hr0] at SP HT
  clear hr0
  obtain ⟨f, hf⟩ : ∃ f : Pt → Int, f = ptS b x := ⟨_, rfl⟩
  rw [← hf] at HT
  have HF : Hid (∀ p, ptS b x p = f p) := Lib.hid (fun p => by rw [hf])
  clear hf
  generalize hbs : b.s = ss at *
  generalize hbw : b.w = ww at *
  generalize hbt : b.t = tt at *
  generalize hbe : b.e = en at *
  clear hbw hbt hbe hbs
  have hB1 : Hid (Below w.heap.size w ((w.alloc (.cells #[.int .i64 ss, .int .i64 ww, .int .i64 tt, .int .i64 en] 23)).alloc (.cells #[.slice A n c, .int .i64 S] 26))) := Lib.hid (((Below.refl _ _).alloc (Nat.le_refl _) _).alloc (by simp) _)
  go_enter Try.func148, Try.ntmps148
  go_upto_region 2 with (go_at_call 161; (refine Calls.mono (SP _).out ?_); rintro e w1 ⟨rfl, hb1⟩)
  have hz1 := hb1.size
  simp at hz1
  have hBw1 : Hid (Below w.heap.size w w1) := Lib.hid (hB1.out.trans (hb1.mono (by simp; try omega)))
  have HC := Lib.hid (fun wx (hbx : Below w1.heap.size w1 wx) => (show (wx.cell? ⟨w.heap.size, 0, none⟩ = some (.int .i64 ss) ∧ wx.cell? ⟨w.heap.size, 0 + 1, none⟩ = some (.int .i64 ww) ∧ wx.cell? ⟨w.heap.size, 0 + 2, none⟩ = some (.int .i64 tt) ∧ wx.cell? ⟨w.heap.size, 0 + 3, none⟩ = some (.int .i64 en)) ∧ wx.cell? ⟨w.heap.size + 1, 0, none⟩ = some (.slice A n c) from by
    have k := (bcell hbx).1
    have k1 := (bcell hb1).1
    exact ⟨⟨(k _ _ (by omega)).trans ((k1 _ _ (by simp; try omega)).trans (by simp [go_sem])), (k _ _ (by omega)).trans ((k1 _ _ (by simp; try omega)).trans (by simp [go_sem])), (k _ _ (by omega)).trans ((k1 _ _ (by simp; try omega)).trans (by simp [go_sem])), (k _ _ (by omega)).trans ((k1 _ _ (by simp; try omega)).trans (by simp [go_sem]))⟩, (k _ _ (by omega)).trans ((k1 _ _ (by simp; try omega)).trans (by simp [go_sem]))⟩))
  have hw2 := (HC.out (w1.alloc (.cells #[.int .i64 r0] 3)) ((Below.refl _ _).alloc (Nat.le_refl _) _)).2
  clear hb1
  have hl0 : w.heap.size < w1.heap.size := by omega
  have hl1 : w.heap.size + 1 < w1.heap.size := by omega
  generalize hB : w1.heap.size = B at *
  go_wp2
  go_loopw [7, 19] (fun t i wr => ∃ (k m : Nat) (zs : List Int), k ≤ n ∧ i = .int .i64 k ∧ m ≤ 3 + k ∧ wr.ownsRow B 3 1 t m (zs.map (Value.int .i64)) ∧ sumL id zs = r0 + sumL f (l.take k) ∧ Below B w1 wr) (fun _ i _ => n - (intOf i).toNat)
  case atStart =>
    refine ⟨0, 1, [r0], Nat.zero_le _, rfl, by omega, ?_, by simp [sumL], (Below.refl _ _).alloc (by omega) _⟩
    rw [← hB]
    exact World.ownsRow_lit _ _ _ (Nat.le_refl _) (by decide) rfl
  case round =>
    obtain ⟨k, m, zs, hk, rfl, hm, hown, hsum, hbw⟩ := hrel
    have HB := Lib.hid hbw
    have HO := Lib.hid hown
    have HSU := Lib.hid hsum
    obtain ⟨⟨d0, d1, d2, d3⟩, d4⟩ := HC.out wr hbw
    have hwsz := hbw.size
    have hl3 : w.heap.size < wr.heap.size := by omega
    have hl4 : w.heap.size + 1 < wr.heap.size := by omega
    have hBw : B ≤ wr.heap.size := by omega
    have HBW := Lib.hid (hBw1.out.trans (hbw.mono (by omega)))
    clear hbw hown hsum hw2
    by_cases hlt : k < n
    · have hkl : k < l.length := by omega
      obtain ⟨blk, off, rfl, hblk, hx⟩ := HR.out.2 (by omega)
      obtain ⟨hp0, hp1⟩ := (hx k hkl).below HBW.out hblk
      have hpo := HWT.out.pt l[k] (List.getElem_mem hkl)
      have HS := Lib.hid (sumL_take_succ f l hkl)
      obtain ⟨p, hpe⟩ : ∃ x, l[k] = x := ⟨_, rfl⟩
      rw [hpe] at hp0 hp1 hpo HS
      clear hx hpe
      have PP := fun wx => PT p hpo wx
      rw [HF.out p] at PP
      obtain ⟨y, hy⟩ : ∃ y, f p = y := ⟨_, rfl⟩
      rw [hy] at PP HS
      clear hy
      obtain ⟨a, v⟩ := p
      simp only at hp0 hp1 PP
      have hl5 : blk < wr.heap.size := by omega
      have HB4 : Hid (Below B w1 (wr.alloc (.cells #[.int .i64 a, .int .i64 v] 90))) := Lib.hid (HB.out.alloc hBw _)
      have HO4 : Hid ((wr.alloc (.cells #[.int .i64 a, .int .i64 v] 90)).ownsRow B 3 1 u7 m (zs.map (Value.int .i64))) := Lib.hid (HO.out.alloc _)
      go_wp2_with (first | (go_at_call 162; (refine Calls.mono (PP _).out ?_); rintro e w5 ⟨rfl, hb5⟩; have hz5 := hb5.size; simp at hz5; have HB5 := Lib.hid (HB4.out.trans (hb5.mono (by simp; omega))); have HO5 := Lib.hid ((HO4.out.kept (row := none) (below_grown5 hb5) (own_ne _)).alloc (.cells #[.int .i64 y] 3)); have HR5 := Lib.hid (intRow_new w5 [y] 3 _ rfl (n := 1) rfl)) | (at_builtin; refine wpList_append_ints rfl _ _ rfl rfl rfl HO5.out HR5.out (by omega) (by simp; omega) ?_; intro v4 w4 hown4 hgrow4 hloc4))
      refine ⟨⟨k + 1, m + 1, zs ++ [y], by omega, by go_num, by omega, by rw [List.map_append]; exact hown4, ?_, below_own (HB5.out.alloc (by omega) _) (by simp; omega) HO5.out hgrow4⟩, by simp [intOf]; omega⟩
      rw [sumL_append, sumL_one, HSU.out, HS.out]
      show _ + y = _
      omega
    · obtain rfl : k = n := by omega
      obtain ⟨A', c', rfl, hrow⟩ := own_ints HO.out
      have HRR := Lib.hid hrow
      clear hrow
      go_wp2
      go_ret
      exact ⟨A', m, c', zs, rfl, HRR.out, by omega, HT.out zs HSU.out, HBW.out⟩
end Go.Proofs.Ytablphoicidlkaa
