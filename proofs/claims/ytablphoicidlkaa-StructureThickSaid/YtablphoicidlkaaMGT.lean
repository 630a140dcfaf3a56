/- The library's binary search, the least number, where the question changes a variable. -/
import Derived.Test.YtablphoicidlkaaSS
import Derived.Test.YtablphoicidlkaaMGA
import Derived.Test.YtablphoicidlkaaRL
import Derived.Test.YtablphoicidlkaaMGH
namespace Go.Proofs.Ytablphoicidlkaa
open Go.RowKit

/-- All but the block pb is as it was. -/
def Exc (pb : Nat) (a b : World) : Prop := a.heap.size ≤ b.heap.size ∧ ∀ blk o, blk < a.heap.size → blk ≠ pb → b.cell? ⟨blk, o, none⟩ = a.cell? ⟨blk, o, none⟩
set_option maxHeartbeats 8000000 in
set_option maxRecDepth 20000 in
theorem searchP_any {N : Nat} (hN : N ≤ 1000000) {q : Nat → Bool} {a b : Addr} {P : World → Prop} (_hP : ∀ wx w', P wx → Below wx.heap.size wx w' → P w') (w : World) (h0 : P w)
    (hF : ∀ (wx : World) (m : Nat), m < N → P wx → Calls Try.prog 155 #[.int .i64 m, .pointer (some a), .pointer (some b)] wx fun e w' => e = .returned (.bool (q m)) ∧ P w') :
    Calls Try.prog 154 #[.int .i64 N, .func (.func 155) #[] #[.pointer (some a), .pointer (some b)]] w
      fun e w' => ∃ r, e = .returned (.int .i64 (r : Nat)) ∧ Found N q r ∧ P w' := by
  have HF := Lib.hid hF
  have H0 := Lib.hid h0
  clear hF h0
  go_enter Try.func154, Try.ntmps154
  go_wp2
  go_loopw [5, 6] (fun i j wr => ∃ x y : Nat, x ≤ y ∧ y ≤ N ∧ i = .int .i64 x ∧ j = .int .i64 y ∧ (x = 0 ∨ q (x - 1) = false) ∧ (y = N ∨ q y = true) ∧ P wr) (fun i j _ => (intOf j).toNat - (intOf i).toNat)
  case atStart => exact ⟨0, N, Nat.zero_le _, Nat.le_refl _, rfl, rfl, .inl rfl, .inl rfl, H0.out⟩
  case round =>
    obtain ⟨x, y, hxy, hy, rfl, rfl, hq1, hq2, hbw⟩ := hrel
    have HB := Lib.hid hbw
    have H1 := Lib.hid hq1; have H2 := Lib.hid hq2
    clear hbw hq1 hq2
    by_cases hlt : x < y
    · obtain ⟨m, hm⟩ : ∃ m, (x + y) / 2 = m := ⟨_, rfl⟩
      have hc : ((m : Nat) : Int) = ((x : Int) + (y : Int)) / 2 := by omega
      have hm1 : x ≤ m := by omega
      have hm2 : m < y := by omega
      have HC := Lib.hid hc
      clear hm
      cases hq : q m
      · have HQ := Lib.hid hq
        have CF : Hid _ := Lib.hid (HF.out wr m (by omega) HB.out)
        rw [hc, hq] at CF
        clear hq hc
        go_wp2_with (go_at_call 155; (refine Calls.mono CF.out ?_); rintro e w1 ⟨rfl, hb1⟩; have HB1 := Lib.hid hb1; clear hb1)
        go_roundw
        case rel => exact ⟨m + 1, y, by omega, hy, by rw [← HC.out]; go_num, rfl, .inr (by simpa using HQ.out), H2.out, HB1.out⟩
        case measure => simp [intOf]; omega
      · have HQ := Lib.hid hq
        have CF : Hid _ := Lib.hid (HF.out wr m (by omega) HB.out)
        rw [hc, hq] at CF
        clear hq hc
        go_wp2_with (go_at_call 155; (refine Calls.mono CF.out ?_); rintro e w1 ⟨rfl, hb1⟩; have HB1 := Lib.hid hb1; clear hb1)
        go_roundw
        case rel => exact ⟨x, m, by omega, by omega, rfl, by rw [← HC.out], H1.out, .inr HQ.out, HB1.out⟩
        case measure => simp [intOf]; omega
    · have he : x = y := by omega
      subst he
      go_wp2
      go_ret
      exact ⟨x, rfl, ⟨hy, H1.out, H2.out⟩, HB.out⟩
set_option maxHeartbeats 2000000 in
theorem lePCloLT_any {p0 p1 p2 p3 P3 P5 : Addr} {i : Nat} (hi : i < 300) {v : Bool} {R : World → Prop} (w : World)
    (hq : Calls Try.prog 120 #[.int .i64 (1 + (i : Int)), .pointer (some p0), .pointer (some p1), .pointer (some p2), .pointer (some p3)] w fun e w' => e = .returned (.bool v) ∧ R w')
    (c5 : w.cell? P5 = some (.func (.func 120) #[] #[.pointer (some p0), .pointer (some p1), .pointer (some p2), .pointer (some p3)])) (c3 : w.cell? P3 = some (.int .i64 1)) :
    Calls Try.prog 155 #[.int .i64 i, .pointer (some P5), .pointer (some P3)] w fun e w' => e = .returned (.bool v) ∧ R w' := by
  have HQ := Lib.hid hq
  clear hq
  have hi2 : (i : Int) < 300 := by omega
  go_enter Try.func155, Try.ntmps155
  go_wp2_with (go_at_call 120; (refine Calls.mono HQ.out ?_); rintro e w1 ⟨rfl, hb1⟩; have HX := Lib.hid hb1; clear hb1)
  go_ret
  exact ⟨rfl, HX.out⟩
def LePOutLT (q : Nat → Bool) (P : World → Prop) (e : Ending) (w' : World) : Prop := ∃ r : Nat, e = .returned (.int .i64 (1 + (r : Int))) ∧ Found 300 q r ∧ P w'
set_option maxHeartbeats 4000000 in
set_option maxRecDepth 20000 in
theorem lePLT_any {p0 p1 p2 p3 : Addr} {q : Nat → Bool} {P : World → Prop} {pb : Nat} (hP : ∀ wx w', P wx → Below wx.heap.size wx w' → P w') (w : World) (h0 : P w) (hpb : pb < w.heap.size)
    (hQ : ∀ (wx : World) (i : Nat), i < 300 → P wx → Calls Try.prog 120 #[.int .i64 (1 + (i : Int)), .pointer (some p0), .pointer (some p1), .pointer (some p2), .pointer (some p3)] wx fun e w' => e = .returned (.bool (q i)) ∧ P w' ∧ Exc pb wx w') :
    Calls Try.prog 119 #[.int .i64 1, .int .i64 300, .func (.func 120) #[] #[.pointer (some p0), .pointer (some p1), .pointer (some p2), .pointer (some p3)]] w (LePOutLT q P) := by
  obtain ⟨J, hJ⟩ : ∃ J : World → Prop, J = fun wx => P wx ∧ wx.cell? ⟨w.heap.size, 0, none⟩ = some (.int .i64 1) ∧ wx.cell? ⟨w.heap.size + 1, 0, none⟩ = some (.func (.func 120) #[] #[.pointer (some p0), .pointer (some p1), .pointer (some p2), .pointer (some p3)]) ∧ w.heap.size + 1 < wx.heap.size := ⟨_, rfl⟩
  have HJK := Lib.hid (show ∀ wx w', J wx → Below wx.heap.size wx w' → J w' from fun wx w' h hb => by
    subst hJ
    obtain ⟨h1, h2, h3, h4⟩ := h
    exact ⟨hP _ _ h1 hb, ((bcell hb).1 _ _ (by omega)).trans h2, ((bcell hb).1 _ _ h4).trans h3, Nat.lt_of_lt_of_le h4 hb.size⟩)
  have HJC := Lib.hid (show ∀ wx, J wx → wx.cell? ⟨w.heap.size, 0, none⟩ = some (.int .i64 1) from fun wx h => by subst hJ; exact h.2.1)
  have HJP := Lib.hid (show ∀ wx, J wx → P wx from fun wx h => by subst hJ; exact h.1)
  have HS := Lib.hid (show ∀ wy, J wy → Calls Try.prog 154 #[.int .i64 300, .func (.func 155) #[] #[.pointer (some ⟨w.heap.size + 1, 0, none⟩), .pointer (some ⟨w.heap.size, 0, none⟩)]] wy fun e w' => ∃ r, e = .returned (.int .i64 (r : Nat)) ∧ Found 300 q r ∧ J w' from fun wy hy =>
    searchP_any (N := 300) (q := q) (a := ⟨w.heap.size + 1, 0, none⟩) (b := ⟨w.heap.size, 0, none⟩) (by decide) HJK.out wy hy (fun wx m hm hx => by
      have hx' := hx
      subst hJ
      obtain ⟨h1, h2, h3, h4⟩ := hx
      exact lePCloLT_any hm wx ((hQ wx m hm h1).mono fun e w' ⟨he, hp, hs, hc⟩ => ⟨he, hp, (hc _ _ (by omega) (by omega)).trans h2, (hc _ _ h4 (by omega)).trans h3, Nat.lt_of_lt_of_le h4 hs⟩) h3 h2))
  have H00 : Hid (∀ w0, Below w.heap.size w w0 → w0.cell? ⟨w.heap.size, 0, none⟩ = some (.int .i64 1) → w0.cell? ⟨w.heap.size + 1, 0, none⟩ = some (.func (.func 120) #[] #[.pointer (some p0), .pointer (some p1), .pointer (some p2), .pointer (some p3)]) → w.heap.size + 1 < w0.heap.size → J w0) := Lib.hid (fun w0 a b c d => by subst hJ; exact ⟨hP _ _ h0 a, b, c, d⟩)
  clear hQ hJ hP h0 hpb
  go_enter Try.func119, Try.ntmps119
  go_wp2
  obtain ⟨w0, hw0⟩ : ∃ w0, ((w.alloc (.cells #[.int .i64 1] 3)).alloc (.cells #[.func (.func 120) #[] #[.pointer (some p0), .pointer (some p1), .pointer (some p2), .pointer (some p3)]] 59)) = w0 := ⟨_, rfl⟩
  have hj0 : J w0 := H00.out _ (by rw [← hw0]; exact (((Below.refl _ _).alloc (Nat.le_refl _) _).alloc (by simp) _)) (by rw [← hw0]; simp [go_sem]) (by rw [← hw0]; simp [go_sem]) (by rw [← hw0]; simp)
  have c0 := HJC.out _ hj0
  rw [hw0]
  clear hw0 H00
  have hsub : IntKind.i64.wrap (300 - 1 : Int) = 299 := by decide
  have hadd : IntKind.i64.wrap (299 + 1 : Int) = 300 := by decide
  go_region_held3 (fun wx => J wx ∧ wx.cell? ⟨w.heap.size, 0, none⟩ = some (.int .i64 1)) (first | assumption | exact ⟨hj0, c0⟩ | exact ⟨HJK.out _ _ (And.left (by assumption)) (Below.refl _ _).drew, HJC.out _ (HJK.out _ _ (And.left (by assumption)) (Below.refl _ _).drew)⟩ | exact ⟨HJK.out _ _ hj0 (Below.refl _ _).drew, HJC.out _ (HJK.out _ _ hj0 (Below.refl _ _).drew)⟩ | exact ⟨hja, HJC.out _ hja⟩) (first | (go_at_call 154; refine Calls.mono (HS.out _ (And.left (by assumption))) ?_; rintro e wa ⟨r, rfl, hr, hja⟩; have hrN := hr.1; have HRF := Lib.hid hr; have hwr : IntKind.i64.wrap (1 + (r : Int)) = 1 + (r : Int) := (by rw [IntKind.wrap_i64]; omega); clear hr) | fail)
  all_goals
    have HX := Lib.hid (HJP.out _ (And.left (by assumption) : J wa))
    go_wp2
    go_ret
    exact ⟨r, by first | rfl | (rw [hwr]), HRF.out, HX.out⟩
end Go.Proofs.Ytablphoicidlkaa
namespace Go.Proofs.Ytablphoicidlkaa
open Go.RowKit

theorem bmok_bT {b : Bm} {m : Int} (hb : BmOk b) (m0 : 1 ≤ m) (m1 : m ≤ 300) : BmOk (bT b m) := ⟨hb.s0, hb.s1, hb.w0, hb.w1, m0, m1, hb.e0⟩
set_option maxHeartbeats 4000000 in
set_option maxRecDepth 20000 in
theorem cloLT_any {b : Bm} {x : Wd} {A : Option Addr} {n c pb : Nat} {S r m t : Int} {l : List Pt} {W : World} (hb : BmOk b) (hl : WtOk b.s l S) (hx : WdOk x) (r0 : 1 ≤ r) (r1 : r ≤ 1000) (m0 : 1 ≤ m) (m1 : m ≤ 300) (h : PtRow W A n l) (w : World) (hW : Below W.heap.size W w) (hpb : W.heap.size ≤ pb)
    (c0 : w.cell? ⟨pb, 0, none⟩ = some (.int .i64 b.s)) (c1 : w.cell? ⟨pb, 1, none⟩ = some (.int .i64 b.w)) (c2 : w.cell? ⟨pb, 2, none⟩ = some (.int .i64 t)) (c3 : w.cell? ⟨pb, 3, none⟩ = some (.int .i64 b.e)) (c4 : w.cell? ⟨pb + 1, 0, none⟩ = some (.int .i64 x.lo)) (c5 : w.cell? ⟨pb + 1, 1, none⟩ = some (.int .i64 x.hi)) (c6 : w.cell? ⟨pb + 1, 2, none⟩ = some (.int .i64 x.st)) (c7 : w.cell? ⟨pb + 2, 0, none⟩ = some (.slice A n c)) (c8 : w.cell? ⟨pb + 2, 1, none⟩ = some (.int .i64 S)) (c9 : w.cell? ⟨pb + 3, 0, none⟩ = some (.int .i64 r)) (z2 : w.frozen? ⟨pb, 2, none⟩ = false) :
    Calls Try.prog 120 #[.int .i64 m, .pointer (some ⟨pb, 0, none⟩), .pointer (some ⟨pb + 1, 0, none⟩), .pointer (some ⟨pb + 2, 0, none⟩), .pointer (some ⟨pb + 3, 0, none⟩)] w fun e w' => e = .returned (.bool (hldB (bT b m) x l S r)) ∧ Below w.heap.size (w.setCell ⟨pb, 2, none⟩ (.int .i64 m)) w' := by
  have hbt := bmok_bT hb m0 m1
  obtain ⟨w1, hw1⟩ : ∃ w1, w.setCell ⟨pb, 2, none⟩ (.int .i64 m) = w1 := ⟨_, rfl⟩
  have hsz : w1.heap.size = w.heap.size := by rw [← hw1]; simp
  have HW1 : Hid (Below W.heap.size W w1) := Lib.hid (by rw [← hw1]; exact hW.setCell hpb _)
  have HC := Lib.hid (fun wx (hy : Below w1.heap.size w1 wx) => (show wx.cell? ⟨pb, 0, none⟩ = some (.int .i64 b.s) ∧ wx.cell? ⟨pb, 1, none⟩ = some (.int .i64 b.w) ∧ wx.cell? ⟨pb, 2, none⟩ = some (.int .i64 m) ∧ wx.cell? ⟨pb, 3, none⟩ = some (.int .i64 b.e) ∧ wx.cell? ⟨pb + 1, 0, none⟩ = some (.int .i64 x.lo) ∧ wx.cell? ⟨pb + 1, 1, none⟩ = some (.int .i64 x.hi) ∧ wx.cell? ⟨pb + 1, 2, none⟩ = some (.int .i64 x.st) ∧ wx.cell? ⟨pb + 2, 0, none⟩ = some (.slice A n c) ∧ wx.cell? ⟨pb + 2, 1, none⟩ = some (.int .i64 S) ∧ wx.cell? ⟨pb + 3, 0, none⟩ = some (.int .i64 r) from by
    obtain ⟨k, -⟩ := bcell hy
    rw [hsz] at k
    have kb := fun b o v (h : w.cell? ⟨b, o, none⟩ = some v) => k b o (World.block_lt_of_cell? w _ h)
    refine ⟨?_, ?_, ?_, ?_, ?_, ?_, ?_, ?_, ?_, ?_⟩
    · rw [kb _ _ _ c0, ← hw1]; exact (World.cell?_setCell_other _ _ _ _ (fun h => by injection h with h1 h2 _; first | exact absurd h2 (by decide) | (simp at h1))).trans c0
    · rw [kb _ _ _ c1, ← hw1]; exact (World.cell?_setCell_other _ _ _ _ (fun h => by injection h with h1 h2 _; first | exact absurd h2 (by decide) | (simp at h1))).trans c1
    · rw [kb _ _ _ c2, ← hw1]; exact World.cell?_setCell_same _ _ _ c2
    · rw [kb _ _ _ c3, ← hw1]; exact (World.cell?_setCell_other _ _ _ _ (fun h => by injection h with h1 h2 _; first | exact absurd h2 (by decide) | (simp at h1))).trans c3
    · rw [kb _ _ _ c4, ← hw1]; exact (World.cell?_setCell_other _ _ _ _ (fun h => by injection h with h1 h2 _; first | exact absurd h2 (by decide) | (simp at h1))).trans c4
    · rw [kb _ _ _ c5, ← hw1]; exact (World.cell?_setCell_other _ _ _ _ (fun h => by injection h with h1 h2 _; first | exact absurd h2 (by decide) | (simp at h1))).trans c5
    · rw [kb _ _ _ c6, ← hw1]; exact (World.cell?_setCell_other _ _ _ _ (fun h => by injection h with h1 h2 _; first | exact absurd h2 (by decide) | (simp at h1))).trans c6
    · rw [kb _ _ _ c7, ← hw1]; exact (World.cell?_setCell_other _ _ _ _ (fun h => by injection h with h1 h2 _; first | exact absurd h2 (by decide) | (simp at h1))).trans c7
    · rw [kb _ _ _ c8, ← hw1]; exact (World.cell?_setCell_other _ _ _ _ (fun h => by injection h with h1 h2 _; first | exact absurd h2 (by decide) | (simp at h1))).trans c8
    · rw [kb _ _ _ c9, ← hw1]; exact (World.cell?_setCell_other _ _ _ _ (fun h => by injection h with h1 h2 _; first | exact absurd h2 (by decide) | (simp at h1))).trans c9))
  have IS := Lib.hid (fun wx (hw : Below w1.heap.size w1 wx) => strongC_any (b := bT b m) (c := c) hbt hl hx wx (h.below (HW1.out.trans (hw.mono (by have := hW.size; omega)))))
  have IT := Lib.hid (fun wx (hw : Below w1.heap.size w1 wx) => stiffC_any (b := bT b m) (c := c) hbt hl hx r0 r1 wx (h.below (HW1.out.trans (hw.mono (by have := hW.size; omega)))))
  rw [hw1, ← hsz]
  clear h hb hl hx hbt hW hpb hsz
  unfold hldB
  unfold bmV wdV buV bT at *
  simp only at IS IT ⊢
  generalize strongB ⟨b.s, b.w, m, b.e⟩ x l S = sb at *
  generalize stiffB ⟨b.s, b.w, m, b.e⟩ x l S r = tb at *
  generalize b.s = y0 at *
  generalize b.w = y1 at *
  generalize b.e = y3 at *
  generalize x.lo = y4 at *
  generalize x.hi = y5 at *
  generalize x.st = y6 at *
  go_enter Try.func120, Try.ntmps120
  go_upto_region 2 with fail
  try rw [hw1]
  have HZ1 := Lib.hid (Below.refl w1.heap.size w1)
  clear hw1 c0 c1 c2 c3 c4 c5 c6 c7 c8 c9 z2
  obtain ⟨c0, c1, c2, c3, c4, c5, c6, c7, c8, c9⟩ := HC.out w1 HZ1.out
  cases sb <;> cases tb
  all_goals
    go_wp2_with (first | (go_at_call 116; (with_reducible refine Calls.mono (IS.out _ HZ1.out) ?_); rintro e w2 ⟨rfl, hb2⟩; have H2 := Lib.hid hb2; clear hb2; obtain ⟨d0, d1, d2, d3, d4, d5, d6, d7, d8, d9⟩ := HC.out w2 H2.out) | (go_at_call 117; (with_reducible refine Calls.mono (IT.out _ H2.out) ?_); rintro e w3 ⟨rfl, hb3⟩; have H3 := Lib.hid (H2.out.trans (hb3.mono H2.out.size)); clear hb3) | fail)
    go_ret
    exact ⟨rfl, by first | exact H3.out | exact H2.out⟩
/-- What the search for the least thickness keeps: all but the thickness. -/
def LtP (W : World) (pb : Nat) (b : Bm) (x : Wd) (A : Option Addr) (n c : Nat) (S r : Int) (wx : World) : Prop := Below W.heap.size W wx ∧ wx.cell? ⟨pb, 0, none⟩ = some (.int .i64 b.s) ∧ wx.cell? ⟨pb, 1, none⟩ = some (.int .i64 b.w) ∧ (∃ t : Int, wx.cell? ⟨pb, 2, none⟩ = some (.int .i64 t)) ∧ wx.cell? ⟨pb, 3, none⟩ = some (.int .i64 b.e) ∧ wx.cell? ⟨pb + 1, 0, none⟩ = some (.int .i64 x.lo) ∧ wx.cell? ⟨pb + 1, 1, none⟩ = some (.int .i64 x.hi) ∧ wx.cell? ⟨pb + 1, 2, none⟩ = some (.int .i64 x.st) ∧ wx.cell? ⟨pb + 2, 0, none⟩ = some (.slice A n c) ∧ wx.cell? ⟨pb + 2, 1, none⟩ = some (.int .i64 S) ∧ wx.cell? ⟨pb + 3, 0, none⟩ = some (.int .i64 r) ∧ wx.frozen? ⟨pb, 2, none⟩ = false
theorem ltP_below {W : World} {pb : Nat} {b : Bm} {x : Wd} {A : Option Addr} {n c : Nat} {S r : Int} (wx w' : World) (h : LtP W pb b x A n c S r wx) (hb : Below wx.heap.size wx w') : LtP W pb b x A n c S r w' := by
  obtain ⟨hW, c0, c1, c2, c3, c4, c5, c6, c7, c8, c9, z⟩ := h
  obtain ⟨k, kf⟩ := bcell hb
  exact ⟨hW.trans (hb.mono hW.size), (k _ _ (World.block_lt_of_cell? wx _ c0)).trans c0, (k _ _ (World.block_lt_of_cell? wx _ c1)).trans c1, (let ⟨t, e⟩ := c2; ⟨t, (k _ _ (World.block_lt_of_cell? wx _ e)).trans e⟩), (k _ _ (World.block_lt_of_cell? wx _ c3)).trans c3, (k _ _ (World.block_lt_of_cell? wx _ c4)).trans c4, (k _ _ (World.block_lt_of_cell? wx _ c5)).trans c5, (k _ _ (World.block_lt_of_cell? wx _ c6)).trans c6, (k _ _ (World.block_lt_of_cell? wx _ c7)).trans c7, (k _ _ (World.block_lt_of_cell? wx _ c8)).trans c8, (k _ _ (World.block_lt_of_cell? wx _ c9)).trans c9, (kf _ _ (World.block_lt_of_cell? wx _ c0)).trans z⟩
theorem ltP_set {W : World} {pb : Nat} {b : Bm} {x : Wd} {A : Option Addr} {n c : Nat} {S r m : Int} (hpb : W.heap.size ≤ pb) (wx w' : World) (h : LtP W pb b x A n c S r wx) (hb : Below wx.heap.size (wx.setCell ⟨pb, 2, none⟩ (.int .i64 m)) w') : LtP W pb b x A n c S r w' ∧ Exc pb wx w' := by
  obtain ⟨hW, c0, c1, ⟨t, c2⟩, c3, c4, c5, c6, c7, c8, c9, z⟩ := h
  have hz : (wx.setCell ⟨pb, 2, none⟩ (.int .i64 m)).heap.size = wx.heap.size := by simp
  have hb2 : Below (wx.setCell ⟨pb, 2, none⟩ (.int .i64 m)).heap.size (wx.setCell ⟨pb, 2, none⟩ (.int .i64 m)) w' := by rw [hz]; exact hb
  obtain ⟨k, kf⟩ := bcell hb2
  rw [hz] at k kf
  have kb := fun b o v (h : wx.cell? ⟨b, o, none⟩ = some v) => k b o (World.block_lt_of_cell? wx _ h)
  refine ⟨⟨(hW.setCell hpb _).trans (hb.mono hW.size), (kb _ _ _ c0).trans ((World.cell?_setCell_other _ _ _ _ (fun h => by injection h with h1 h2 _; first | exact absurd h2 (by decide) | (simp at h1))).trans c0), (kb _ _ _ c1).trans ((World.cell?_setCell_other _ _ _ _ (fun h => by injection h with h1 h2 _; first | exact absurd h2 (by decide) | (simp at h1))).trans c1), ⟨m, (kb _ _ _ c2).trans (World.cell?_setCell_same _ _ _ c2)⟩, (kb _ _ _ c3).trans ((World.cell?_setCell_other _ _ _ _ (fun h => by injection h with h1 h2 _; first | exact absurd h2 (by decide) | (simp at h1))).trans c3), (kb _ _ _ c4).trans ((World.cell?_setCell_other _ _ _ _ (fun h => by injection h with h1 h2 _; first | exact absurd h2 (by decide) | (simp at h1))).trans c4), (kb _ _ _ c5).trans ((World.cell?_setCell_other _ _ _ _ (fun h => by injection h with h1 h2 _; first | exact absurd h2 (by decide) | (simp at h1))).trans c5), (kb _ _ _ c6).trans ((World.cell?_setCell_other _ _ _ _ (fun h => by injection h with h1 h2 _; first | exact absurd h2 (by decide) | (simp at h1))).trans c6), (kb _ _ _ c7).trans ((World.cell?_setCell_other _ _ _ _ (fun h => by injection h with h1 h2 _; first | exact absurd h2 (by decide) | (simp at h1))).trans c7), (kb _ _ _ c8).trans ((World.cell?_setCell_other _ _ _ _ (fun h => by injection h with h1 h2 _; first | exact absurd h2 (by decide) | (simp at h1))).trans c8), (kb _ _ _ c9).trans ((World.cell?_setCell_other _ _ _ _ (fun h => by injection h with h1 h2 _; first | exact absurd h2 (by decide) | (simp at h1))).trans c9), (kf _ _ (World.block_lt_of_cell? wx _ c0)).trans (by rw [World.frozen?_setCell]; exact z)⟩, by have := hb.size; rw [hz] at this; exact this, fun blk o hlt hne => (k _ _ hlt).trans (World.cell?_setCell_other _ _ _ _ (fun h => by injection h with h1 h2 _; exact hne h1.symm))⟩
/-- What LeastThick hands back: k counts from 0. -/
def thkV (e : Int) (k : Nat) : Value := bif e == 0 then (bif k == 300 then .tuple #[.int .i64 0, .int .i64 12] else .tuple #[.int .i64 (1 + (k : Int)), .int .i64 0]) else .tuple #[.int .i64 0, .int .i64 e]
def thkQ (b : Bm) (x : Wd) (l : List Pt) (S r : Int) (i : Nat) : Bool := hldB (bT b (1 + (i : Int))) x l S r
/-- k is the first number at which the answer is yes, or 300. -/
def Frst (q : Nat → Bool) (k : Nat) : Prop := k ≤ 300 ∧ (∀ a, a < k → q a = false) ∧ (k < 300 → q k = true)
theorem frst_up (q : Nat → Bool) : ∀ n, ∃ k, k ≤ n ∧ (∀ a, a < k → q a = false) ∧ (k < n → q k = true)
  | 0 => ⟨0, Nat.le_refl _, fun a h => absurd h (by omega), fun h => absurd h (by omega)⟩
  | n + 1 => by
    obtain ⟨k, h1, h2, h3⟩ := frst_up q n
    by_cases hk : k < n
    · exact ⟨k, by omega, h2, fun _ => h3 hk⟩
    · obtain rfl : k = n := by omega
      cases hq : q k
      · exact ⟨k + 1, by omega, fun a ha => by
          by_cases hak : a < k
          · exact h2 a hak
          · obtain rfl : a = k := by omega
            exact hq, fun h => absurd h (by omega)⟩
      · exact ⟨k, by omega, h2, fun _ => hq⟩
theorem frst_ex (q : Nat → Bool) : ∃ k, Frst q k := frst_up q 300
theorem thk_found {b : Bm} {x : Wd} {l : List Pt} {S r : Int} {k k' : Nat} (hb : BmOk b) (hx : WdOk x) (hk : Frst (thkQ b x l S r) k) (h : Found 300 (thkQ b x l S r) k') : k' = k :=
  found_unique (fun i j hij _ h => hld_mono (by have := hb.s0; omega) (by have := hb.w0; omega) hx (by omega) (by omega) h) h hk.1 hk.2.1 hk.2.2
set_option maxHeartbeats 4000000 in
set_option maxRecDepth 20000 in
theorem leastThick_any {b : Bm} {x : Wd} {A : Option Addr} {n c k : Nat} {S r : Int} {l : List Pt} (hk : Frst (thkQ b x l S r) k) (w : World) (h : PtRow w A n l) (hn : n ≤ maxLen) :
    Calls Try.prog 58 #[bmV b, wdV x, buV A n c S, .int .i64 r] w fun e w' => e = .returned (thkV (hldE b x l S r) k) ∧ Below w.heap.size w w' := by
  have CH := Lib.hid (fun wx (hx : Below w.heap.size w wx) => checkHold_any (b := b) (x := x) (c := c) (S := S) (r := r) wx (h.below hx) hn)
  have LT := Lib.hid (fun (he : hldE b x l S r = 0) w1 (h0 : LtP w w.heap.size b x A n c S r w1) => let k := hldE_ok.1 he
    lePLT_any (p0 := ⟨w.heap.size, 0, none⟩) (p1 := ⟨w.heap.size + 1, 0, none⟩) (p2 := ⟨w.heap.size + 2, 0, none⟩) (p3 := ⟨w.heap.size + 3, 0, none⟩) (q := thkQ b x l S r) (P := LtP w w.heap.size b x A n c S r) (pb := w.heap.size) ltP_below w1 h0 (World.block_lt_of_cell? w1 _ h0.2.1)
      (fun wx i hi hp => by
        have hp' := hp
        obtain ⟨hW, c0, c1, ⟨t, c2⟩, c3, c4, c5, c6, c7, c8, c9, z⟩ := hp
        exact (cloLT_any (m := 1 + (i : Int)) k.1.1 k.1.2 k.2.1 k.2.2.1 k.2.2.2 (by omega) (by omega) h wx hW (Nat.le_refl _) c0 c1 c2 c3 c4 c5 c6 c7 c8 c9 z).mono fun e w' ⟨he, hb⟩ => ⟨he, ltP_set (Nat.le_refl _) wx w' hp' hb⟩))
  have HU := Lib.hid (fun (he : hldE b x l S r = 0) k' (hf : Found 300 (thkQ b x l S r) k') => let k := hldE_ok.1 he; thk_found k.1.1 k.2.1 hk hf)
  have HP0 : Hid (∀ w1, Below w.heap.size w w1 → w1.cell? ⟨w.heap.size, 0, none⟩ = some (.int .i64 b.s) → w1.cell? ⟨w.heap.size, 1, none⟩ = some (.int .i64 b.w) → w1.cell? ⟨w.heap.size, 2, none⟩ = some (.int .i64 b.t) → w1.cell? ⟨w.heap.size, 3, none⟩ = some (.int .i64 b.e) → w1.cell? ⟨w.heap.size + 1, 0, none⟩ = some (.int .i64 x.lo) → w1.cell? ⟨w.heap.size + 1, 1, none⟩ = some (.int .i64 x.hi) → w1.cell? ⟨w.heap.size + 1, 2, none⟩ = some (.int .i64 x.st) → w1.cell? ⟨w.heap.size + 2, 0, none⟩ = some (.slice A n c) → w1.cell? ⟨w.heap.size + 2, 1, none⟩ = some (.int .i64 S) → w1.cell? ⟨w.heap.size + 3, 0, none⟩ = some (.int .i64 r) → w1.frozen? ⟨w.heap.size, 2, none⟩ = false → LtP w w.heap.size b x A n c S r w1) := Lib.hid (fun w1 hW c0 c1 c2 c3 c4 c5 c6 c7 c8 c9 z => ⟨hW, c0, c1, ⟨_, c2⟩, c3, c4, c5, c6, c7, c8, c9, z⟩)
  have hk3 := hk.1
  have HPB : Hid (∀ w', LtP w w.heap.size b x A n c S r w' → Below w.heap.size w w') := Lib.hid (fun w' h => h.1)
  clear h hn hk
  obtain ⟨s, ww, t, en⟩ := b
  obtain ⟨lo, hi, st⟩ := x
  unfold bmV wdV buV LePOutLT at *
  simp only at CH HP0 ⊢
  generalize LtP w w.heap.size ⟨s, ww, t, en⟩ ⟨lo, hi, st⟩ A n c S r = PP at *
  generalize hldE ⟨s, ww, t, en⟩ ⟨lo, hi, st⟩ l S r = ee at *
  generalize thkQ ⟨s, ww, t, en⟩ ⟨lo, hi, st⟩ l S r = qq at *
  go_enter Try.func58, Try.ntmps58
  go_upto_region 1 with fail
  obtain ⟨w0, hw0⟩ : ∃ w0, ((((w.alloc (.cells #[.int .i64 s, .int .i64 ww, .int .i64 t, .int .i64 en] 23)).alloc (.cells #[.int .i64 lo, .int .i64 hi, .int .i64 st] 79)).alloc (.cells #[.slice A n c, .int .i64 S] 26)).alloc (.cells #[.int .i64 r] 3)) = w0 := ⟨_, rfl⟩
  have HB0 : Hid (Below w.heap.size w w0) := Lib.hid (by rw [← hw0]; exact (((((Below.refl _ _).alloc (Nat.le_refl _) _).alloc (by simp; try omega) _).alloc (by simp; try omega) _).alloc (by simp; try omega) _))
  have HC := Lib.hid (fun wx (hb : Below w0.heap.size w0 wx) => (show wx.cell? ⟨w.heap.size, 0, none⟩ = some (.int .i64 s) ∧ wx.cell? ⟨w.heap.size, 1, none⟩ = some (.int .i64 ww) ∧ wx.cell? ⟨w.heap.size, 2, none⟩ = some (.int .i64 t) ∧ wx.cell? ⟨w.heap.size, 3, none⟩ = some (.int .i64 en) ∧ wx.cell? ⟨w.heap.size + 1, 0, none⟩ = some (.int .i64 lo) ∧ wx.cell? ⟨w.heap.size + 1, 1, none⟩ = some (.int .i64 hi) ∧ wx.cell? ⟨w.heap.size + 1, 2, none⟩ = some (.int .i64 st) ∧ wx.cell? ⟨w.heap.size + 2, 0, none⟩ = some (.slice A n c) ∧ wx.cell? ⟨w.heap.size + 2, 1, none⟩ = some (.int .i64 S) ∧ wx.cell? ⟨w.heap.size + 3, 0, none⟩ = some (.int .i64 r) ∧ wx.frozen? ⟨w.heap.size, 0, none⟩ = false ∧ wx.frozen? ⟨w.heap.size, 1, none⟩ = false ∧ wx.frozen? ⟨w.heap.size, 2, none⟩ = false ∧ wx.frozen? ⟨w.heap.size, 3, none⟩ = false from by
    subst hw0
    obtain ⟨k, kf⟩ := bcell hb
    exact ⟨(k _ _ (by simp; try omega)).trans (by simp [go_sem]), (k _ _ (by simp; try omega)).trans (by simp [go_sem]), (k _ _ (by simp; try omega)).trans (by simp [go_sem]), (k _ _ (by simp; try omega)).trans (by simp [go_sem]), (k _ _ (by simp; try omega)).trans (by simp [go_sem]), (k _ _ (by simp; try omega)).trans (by simp [go_sem]), (k _ _ (by simp; try omega)).trans (by simp [go_sem]), (k _ _ (by simp; try omega)).trans (by simp [go_sem]), (k _ _ (by simp; try omega)).trans (by simp [go_sem]), (k _ _ (by simp; try omega)).trans (by simp [go_sem]), (kf _ _ (by simp; try omega)).trans (by simp [go_sem]), (kf _ _ (by simp; try omega)).trans (by simp [go_sem]), (kf _ _ (by simp; try omega)).trans (by simp [go_sem]), (kf _ _ (by simp; try omega)).trans (by simp [go_sem])⟩))
  rw [hw0]
  clear hw0
  have HZ0 := Lib.hid (Below.refl w0.heap.size w0)
  obtain ⟨c0, c1, c2, c3, c4, c5, c6, c7, c8, c9, z0_0, z0_1, z0_2, z0_3⟩ := HC.out w0 HZ0.out
  go_upto_region 2 with (go_at_call 115; (with_reducible refine Calls.mono (CH.out _ HB0.out) ?_); rintro e w1 ⟨rfl, hb1⟩; have H1 := Lib.hid hb1; clear hb1)
  have HW1 := Lib.hid (HB0.out.trans (H1.out.mono HB0.out.size))
  clear c0 c1 c2 c3 c4 c5 c6 c7 c8 c9 z0_0 z0_1 z0_2 z0_3
  by_cases he : ee = 0
  · subst he
    obtain ⟨c0, c1, c2, c3, c4, c5, c6, c7, c8, c9, z0_0, z0_1, z0_2, z0_3⟩ := HC.out w1 H1.out
    have hp1 := HP0.out w1 HW1.out c0 c1 c2 c3 c4 c5 c6 c7 c8 c9 z0_2
    have LT2 := Lib.hid (LT.out rfl w1 hp1)
    have HU2 := Lib.hid (HU.out rfl)
    clear LT HU CH HP0 hp1 c0 c1 c2 c3 c4 c5 c6 c7 c8 c9 z0_0 z0_1 z0_2 z0_3
    by_cases hk0 : k = 300
    · have hkd : (k == 300) = true := by simpa using hk0
      have hv : thkV 0 k = .tuple #[.int .i64 0, .int .i64 12] := by unfold thkV; rw [hkd]; rfl
      have hgt : decide ((300 : Int) < 1 + (k : Int)) = true := decide_eq_true (by omega)
      have hgt' : (300 : Int) < 1 + (k : Int) := by omega
      go_wp2_with (go_at_call 119; (refine Calls.mono LT2.out ?_); rintro e w2 ⟨k', rfl, hf, hp2⟩; obtain rfl := HU2.out k' hf; have HW2 := Lib.hid (HPB.out w2 hp2); clear hf hp2)
      refine bodyPost_ret (v := .tuple #[.int .i64 0, .int .i64 12]) (by simp [results, Try.results58, go_sem]) rfl ⟨ret_v hv.symm, HW2.out⟩
    · have hkd : (k == 300) = false := by simpa using hk0
      have hv : thkV 0 k = .tuple #[.int .i64 (1 + (k : Int)), .int .i64 0] := by unfold thkV; rw [hkd]; rfl
      have hgt : decide ((300 : Int) < 1 + (k : Int)) = false := decide_eq_false (by omega)
      have hgt' : ¬ (300 : Int) < 1 + (k : Int) := by omega
      go_wp2_with (go_at_call 119; (refine Calls.mono LT2.out ?_); rintro e w2 ⟨k', rfl, hf, hp2⟩; obtain rfl := HU2.out k' hf; have HW2 := Lib.hid (HPB.out w2 hp2); clear hf hp2)
      refine bodyPost_ret (v := .tuple #[.int .i64 (1 + (k' : Int)), .int .i64 0]) (by simp [results, Try.results58, go_sem]) rfl ⟨ret_v hv.symm, HW2.out⟩
  · have e1' : (ee == 0) = false := by simpa using he
    have e2' : (ee != 0) = true := by simpa using he
    have hv : thkV ee k = .tuple #[.int .i64 0, .int .i64 ee] := by unfold thkV; rw [e1']; rfl
    go_wp2
    refine bodyPost_ret (v := .tuple #[.int .i64 0, .int .i64 ee]) (by simp [results, Try.results58, go_sem]) rfl ⟨ret_v hv.symm, HW1.out⟩
end Go.Proofs.Ytablphoicidlkaa
namespace Go.Proofs.Ytablphoicidlkaa
open Go.RowKit

def RtP (w : World) (pM : Nat) (s ww en lo hi st : Int) (A : Option Addr) (n c : Nat) (S mn md tt : Int) (wx : World) : Prop := Below w.heap.size w wx ∧ wx.cell? ⟨w.heap.size, 0, none⟩ = some (.int .i64 s) ∧ wx.cell? ⟨w.heap.size, 1, none⟩ = some (.int .i64 ww) ∧ wx.cell? ⟨w.heap.size, 2, none⟩ = some (.int .i64 tt) ∧ wx.cell? ⟨w.heap.size, 3, none⟩ = some (.int .i64 en) ∧ wx.cell? ⟨w.heap.size + 1, 0, none⟩ = some (.int .i64 lo) ∧ wx.cell? ⟨w.heap.size + 1, 1, none⟩ = some (.int .i64 hi) ∧ wx.cell? ⟨w.heap.size + 1, 2, none⟩ = some (.int .i64 st) ∧ wx.cell? ⟨w.heap.size + 2, 0, none⟩ = some (.slice A n c) ∧ wx.cell? ⟨w.heap.size + 2, 1, none⟩ = some (.int .i64 S) ∧ wx.cell? ⟨pM, 0, none⟩ = some (.int .i64 mn) ∧ wx.cell? ⟨pM, 1, none⟩ = some (.int .i64 md) ∧ wx.frozen? ⟨w.heap.size, 2, none⟩ = false
theorem rtP_below {w : World} {pM : Nat} {s ww en lo hi st : Int} {A : Option Addr} {n c : Nat} {S mn md tt : Int} {wx w' : World} (h : RtP w pM s ww en lo hi st A n c S mn md tt wx) (hb : Below wx.heap.size wx w') : RtP w pM s ww en lo hi st A n c S mn md tt w' := by
  obtain ⟨hW, c0, c1, c2, c3, c4, c5, c6, c7, c8, c9, c10, z⟩ := h
  obtain ⟨k, kf⟩ := bcell hb
  exact ⟨hW.trans (hb.mono hW.size), (k _ _ (World.block_lt_of_cell? wx _ c0)).trans c0, (k _ _ (World.block_lt_of_cell? wx _ c1)).trans c1, (k _ _ (World.block_lt_of_cell? wx _ c2)).trans c2, (k _ _ (World.block_lt_of_cell? wx _ c3)).trans c3, (k _ _ (World.block_lt_of_cell? wx _ c4)).trans c4, (k _ _ (World.block_lt_of_cell? wx _ c5)).trans c5, (k _ _ (World.block_lt_of_cell? wx _ c6)).trans c6, (k _ _ (World.block_lt_of_cell? wx _ c7)).trans c7, (k _ _ (World.block_lt_of_cell? wx _ c8)).trans c8, (k _ _ (World.block_lt_of_cell? wx _ c9)).trans c9, (k _ _ (World.block_lt_of_cell? wx _ c10)).trans c10, (kf _ _ (World.block_lt_of_cell? wx _ c0)).trans z⟩
theorem rtP_set {w : World} {pM : Nat} {s ww en lo hi st : Int} {A : Option Addr} {n c : Nat} {S mn md tt m : Int} {wx : World} (_hne : pM ≠ w.heap.size) (h : RtP w pM s ww en lo hi st A n c S mn md tt wx) : RtP w pM s ww en lo hi st A n c S mn md m (wx.setCell ⟨w.heap.size, 2, none⟩ (.int .i64 m)) := by
  obtain ⟨hW, c0, c1, c2, c3, c4, c5, c6, c7, c8, c9, c10, z⟩ := h
  exact ⟨hW.setCell (Nat.le_refl _) _, (World.cell?_setCell_other _ _ _ _ (fun h => by injection h with h1 h2 _; first | exact absurd h2 (by decide) | (simp at h1; done) | exact _hne h1.symm)).trans c0, (World.cell?_setCell_other _ _ _ _ (fun h => by injection h with h1 h2 _; first | exact absurd h2 (by decide) | (simp at h1; done) | exact _hne h1.symm)).trans c1, World.cell?_setCell_same _ _ _ c2, (World.cell?_setCell_other _ _ _ _ (fun h => by injection h with h1 h2 _; first | exact absurd h2 (by decide) | (simp at h1; done) | exact _hne h1.symm)).trans c3, (World.cell?_setCell_other _ _ _ _ (fun h => by injection h with h1 h2 _; first | exact absurd h2 (by decide) | (simp at h1; done) | exact _hne h1.symm)).trans c4, (World.cell?_setCell_other _ _ _ _ (fun h => by injection h with h1 h2 _; first | exact absurd h2 (by decide) | (simp at h1; done) | exact _hne h1.symm)).trans c5, (World.cell?_setCell_other _ _ _ _ (fun h => by injection h with h1 h2 _; first | exact absurd h2 (by decide) | (simp at h1; done) | exact _hne h1.symm)).trans c6, (World.cell?_setCell_other _ _ _ _ (fun h => by injection h with h1 h2 _; first | exact absurd h2 (by decide) | (simp at h1; done) | exact _hne h1.symm)).trans c7, (World.cell?_setCell_other _ _ _ _ (fun h => by injection h with h1 h2 _; first | exact absurd h2 (by decide) | (simp at h1; done) | exact _hne h1.symm)).trans c8, (World.cell?_setCell_other _ _ _ _ (fun h => by injection h with h1 h2 _; first | exact absurd h2 (by decide) | (simp at h1; done) | exact _hne h1.symm)).trans c9, (World.cell?_setCell_other _ _ _ _ (fun h => by injection h with h1 h2 _; first | exact absurd h2 (by decide) | (simp at h1; done) | exact _hne h1.symm)).trans c10, by rw [World.frozen?_setCell]; exact z⟩
theorem wp_storeF {Q : Exit → Act → World → Prop} {K : Act → World → Prop} {o : Oper} {ac : Act} {wx : World} {i j bb : Nat} {u v : Int} (ho : o.op = .store 30 (.tmp i) (.tmp j)) (hd : o.dst = none) (dp : ac.tmps[i]?.getD undef = .pointer (some ⟨bb, 0, none⟩)) (dv : ac.tmps[j]?.getD undef = .agg #[.int .i64 u, .int .i64 v])
    (z0 : wx.frozen? ⟨bb, 0, none⟩ = false) (z1 : wx.frozen? ⟨bb, 1, none⟩ = false) {c0 c1 : Value} (y0 : wx.cell? ⟨bb, 0, none⟩ = some c0) (y1 : wx.cell? ⟨bb, 1, none⟩ = some c1)
    (h : K ac ((wx.setCell ⟨bb, 0, none⟩ (.int .i64 u)).setCell ⟨bb, 1, none⟩ (.int .i64 v))) :
    Oper.wp Try.prog o ac wx K Q := by
  simp [ho, hd, Oper.wp, Oper.upon, execOp, Act.eval, go_sem, dp, dv, z0, z1, y0, y1]
  exact h
def RtI (w : World) (pM : Nat) (s ww en lo hi st : Int) (A : Option Addr) (n c : Nat) (S mn md : Int) (qq : Nat → Bool) (i : Value) (wr : World) : Prop := ∃ (k : Nat) (tt : Int), k ≤ 300 ∧ i = .int .i64 ((k + 1 : Nat) : Int) ∧ (∀ a, a < k → qq a = false) ∧ RtP w pM s ww en lo hi st A n c S mn md tt wr
theorem rtI_step {w : World} {pM : Nat} {s ww en lo hi st : Int} {A : Option Addr} {n c : Nat} {S mn md : Int} {qq : Nat → Bool} {wr : World} {k j : Nat} (hj : k + 1 = j) (hlt : k < 300) (hq : ∀ a, a < k → qq a = false) (hk : qq k = false) (hp : RtP w pM s ww en lo hi st A n c S mn md (j : Int) wr) : RtI w pM s ww en lo hi st A n c S mn md qq (.int .i64 ((j : Int) + 1)) wr := by
  subst hj
  refine ⟨k + 1, _, by omega, by simp, fun a ha => ?_, hp⟩
  by_cases hak : a < k
  · exact hq a hak
  · obtain rfl : a = k := by omega
    exact hk
set_option maxHeartbeats 8000000 in
set_option maxRecDepth 20000 in
theorem rthick_walk {s ww t en lo hi st r : Int} {A : Option Addr} {n c k0 : Nat} {S mn md ab pg pl un ud : Int} {qq : Nat → Bool} (w : World)
    (GM : ∀ wx, Below w.heap.size w wx → Calls Try.prog 37 #[.agg #[.int .i64 s, .int .i64 ww, .int .i64 t, .int .i64 en], .agg #[.slice A n c, .int .i64 S]] wx fun e w' => e = .returned (.tuple #[.int .i64 pg, .agg #[.int .i64 mn, .int .i64 md]]) ∧ Below wx.heap.size wx w')
    (GS : ∀ wx, Below w.heap.size w wx → Calls Try.prog 42 #[.agg #[.int .i64 s, .int .i64 ww, .int .i64 t, .int .i64 en], .int .i64 lo, .agg #[.slice A n c, .int .i64 S]] wx fun e w' => e = .returned (.tuple #[.int .i64 pl, .agg #[.int .i64 un, .int .i64 ud]]) ∧ Below wx.heap.size wx w')
    (AB : ∀ wx, Calls Try.prog 104 #[.int .i64 mn] wx fun e w' => e = .returned (.int .i64 ab) ∧ wx = w')
    (RF : ∀ k j : Nat, k < 300 → k + 1 = j → ∃ (nn de gn gd a2 c1 c2 u1 u2 u3 u4 : Int) (sb tb : Bool), qq k = (sb && tb) ∧ wrap64 (6 * ab) = u1 ∧ wrap64 (md * ww) = u2 ∧ wrap64 (u2 * j) = u3 ∧ wrap64 (u3 * j) = u4 ∧ decide (c1 ≤ 0) = sb ∧ decide (c2 ≤ 0) = tb ∧
      (∀ wx, Calls Try.prog 89 #[.int .i64 u1, .int .i64 u4] wx fun e w' => e = .returned (.agg #[.int .i64 nn, .int .i64 de]) ∧ Below wx.heap.size wx w') ∧
      (∀ wx, Calls Try.prog 50 #[.agg #[.int .i64 nn, .int .i64 de], .agg #[.int .i64 st, .int .i64 1]] wx fun e w' => e = .returned (.int .i64 c1) ∧ Below wx.heap.size wx w') ∧
      (∀ wx, Below w.heap.size w wx → Calls Try.prog 43 #[.agg #[.int .i64 s, .int .i64 ww, .int .i64 (j : Int), .int .i64 en], .int .i64 lo, .agg #[.slice A n c, .int .i64 S], .int .i64 pl] wx fun e w' => e = .returned (.agg #[.int .i64 gn, .int .i64 gd]) ∧ Below wx.heap.size wx w') ∧
      (∀ wx, Calls Try.prog 118 #[.agg #[.int .i64 gn, .int .i64 gd]] wx fun e w' => e = .returned (.agg #[.int .i64 a2, .int .i64 gd]) ∧ Below wx.heap.size wx w') ∧
      (∀ wx, Calls Try.prog 50 #[.agg #[.int .i64 a2, .int .i64 gd], .agg #[.int .i64 s, .int .i64 r]] wx fun e w' => e = .returned (.int .i64 c2) ∧ Below wx.heap.size wx w'))
    (hk : Frst qq k0) :
    Calls Try.prog 59 #[.agg #[.int .i64 s, .int .i64 ww, .int .i64 t, .int .i64 en], .agg #[.int .i64 lo, .int .i64 hi, .int .i64 st], .agg #[.slice A n c, .int .i64 S], .int .i64 r] w fun e w' => e = .returned (.int .i64 (bif k0 == 300 then 0 else 1 + (k0 : Int))) ∧ Below w.heap.size w w' := by
  have HGM := Lib.hid GM
  have HGS := Lib.hid GS
  have HAB := Lib.hid AB
  have HRF := Lib.hid RF
  have HK := Lib.hid hk
  clear GM GS AB RF hk
  go_enter Try.func59, Try.ntmps59
  go_upto_region 1 with fail
  obtain ⟨w0, hw0⟩ : ∃ w0, (((w.alloc (.cells #[.int .i64 s, .int .i64 ww, .int .i64 t, .int .i64 en] 23)).alloc (.cells #[.int .i64 lo, .int .i64 hi, .int .i64 st] 79)).alloc (.cells #[.slice A n c, .int .i64 S] 26)) = w0 := ⟨_, rfl⟩
  have HB0 : Hid (Below w.heap.size w w0) := Lib.hid (by rw [← hw0]; exact ((((Below.refl _ _).alloc (Nat.le_refl _) _).alloc (by simp; try omega) _).alloc (by simp; try omega) _))
  have HC := Lib.hid (fun wx (hb : Below w0.heap.size w0 wx) => (show wx.cell? ⟨w.heap.size, 0, none⟩ = some (.int .i64 s) ∧ wx.cell? ⟨w.heap.size, 1, none⟩ = some (.int .i64 ww) ∧ wx.cell? ⟨w.heap.size, 2, none⟩ = some (.int .i64 t) ∧ wx.cell? ⟨w.heap.size, 3, none⟩ = some (.int .i64 en) ∧ wx.cell? ⟨w.heap.size + 1, 0, none⟩ = some (.int .i64 lo) ∧ wx.cell? ⟨w.heap.size + 1, 1, none⟩ = some (.int .i64 hi) ∧ wx.cell? ⟨w.heap.size + 1, 2, none⟩ = some (.int .i64 st) ∧ wx.cell? ⟨w.heap.size + 2, 0, none⟩ = some (.slice A n c) ∧ wx.cell? ⟨w.heap.size + 2, 1, none⟩ = some (.int .i64 S) ∧ wx.frozen? ⟨w.heap.size, 0, none⟩ = false ∧ wx.frozen? ⟨w.heap.size, 1, none⟩ = false ∧ wx.frozen? ⟨w.heap.size, 2, none⟩ = false ∧ wx.frozen? ⟨w.heap.size, 3, none⟩ = false from by
    subst hw0
    obtain ⟨k, kf⟩ := bcell hb
    exact ⟨(k _ _ (by simp; try omega)).trans (by simp [go_sem]), (k _ _ (by simp; try omega)).trans (by simp [go_sem]), (k _ _ (by simp; try omega)).trans (by simp [go_sem]), (k _ _ (by simp; try omega)).trans (by simp [go_sem]), (k _ _ (by simp; try omega)).trans (by simp [go_sem]), (k _ _ (by simp; try omega)).trans (by simp [go_sem]), (k _ _ (by simp; try omega)).trans (by simp [go_sem]), (k _ _ (by simp; try omega)).trans (by simp [go_sem]), (k _ _ (by simp; try omega)).trans (by simp [go_sem]), (kf _ _ (by simp; try omega)).trans (by simp [go_sem]), (kf _ _ (by simp; try omega)).trans (by simp [go_sem]), (kf _ _ (by simp; try omega)).trans (by simp [go_sem]), (kf _ _ (by simp; try omega)).trans (by simp [go_sem])⟩))
  rw [hw0]
  clear hw0
  have HZ0 := Lib.hid (Below.refl w0.heap.size w0)
  obtain ⟨c0, c1, c2, c3, c4, c5, c6, c7, c8, z0_0, z0_1, z0_2, z0_3⟩ := HC.out w0 HZ0.out
  go_upto_region 2 with (go_at_call 37; (with_reducible refine Calls.mono (HGM.out _ HB0.out) ?_); rintro e w1 ⟨rfl, hb1⟩; have H1 := Lib.hid hb1; clear hb1)
  obtain ⟨w2, hw2⟩ : ∃ w2, w1.alloc (.cells #[.int .i64 mn, .int .i64 md] 30) = w2 := ⟨_, rfl⟩
  have H2 : Hid (Below w0.heap.size w0 w2) := Lib.hid (by rw [← hw2]; exact H1.out.alloc H1.out.size _)
  obtain ⟨pM, hpM⟩ : ∃ x, w1.heap.size = x := ⟨_, rfl⟩
  have hne : pM ≠ w.heap.size := by
    have h1 := H1.out.size
    have h2 : w.heap.size + 2 < w0.heap.size := World.block_lt_of_cell? w0 _ (HC.out w0 HZ0.out).2.2.2.2.2.2.2.1
    omega
  have HU : Hid (w2.cell? ⟨pM, 0, none⟩ = some (.int .i64 mn) ∧ w2.cell? ⟨pM, 1, none⟩ = some (.int .i64 md) ∧ pM < w2.heap.size) := Lib.hid (by rw [← hw2, ← hpM]; exact ⟨by simp [go_sem], by simp [go_sem], by simp⟩)
  rw [hw2, hpM]
  clear hw2 hpM c0 c1 c2 c3 c4 c5 c6 c7 c8 z0_0 z0_1 z0_2 z0_3
  obtain ⟨c0, c1, c2, c3, c4, c5, c6, c7, c8, z0_0, z0_1, z0_2, z0_3⟩ := HC.out w2 H2.out
  have HW2 := Lib.hid (HB0.out.trans (H2.out.mono HB0.out.size))
  have HP2 : Hid (RtP w pM s ww en lo hi st A n c S mn md t w2) := Lib.hid ⟨HW2.out, c0, c1, c2, c3, c4, c5, c6, c7, c8, HU.out.1, HU.out.2.1, z0_2⟩
  go_upto_region 3 with (go_at_call 42; (with_reducible refine Calls.mono (HGS.out _ HW2.out) ?_); rintro e w3 ⟨rfl, hb3⟩; have H3 := Lib.hid hb3; clear hb3)
  obtain ⟨w4, hw4⟩ : ∃ w4, w3.alloc (.cells #[.int .i64 un, .int .i64 ud] 30) = w4 := ⟨_, rfl⟩
  have H4 : Hid (Below w2.heap.size w2 w4) := Lib.hid (by rw [← hw4]; exact H3.out.alloc H3.out.size _)
  have HP4 := Lib.hid (rtP_below HP2.out H4.out)
  rw [hw4]
  clear hw4 c0 c1 c2 c3 c4 c5 c6 c7 c8 z0_0 z0_1 z0_2 z0_3 HC HGM HGS HU
  go_wp2
  go_loopw [13] (fun i wr => RtI w pM s ww en lo hi st A n c S mn md qq i wr) (fun i _ => 301 - (intOf i).toNat)
  case atStart => exact ⟨0, t, Nat.zero_le _, rfl, fun a h => absurd h (by omega), HP4.out⟩
  case round =>
    obtain ⟨k, tt, hk, rfl, hq, hp⟩ := hrel
    obtain ⟨j, hj⟩ : ∃ j, k + 1 = j := ⟨_, rfl⟩
    rw [hj]
    have HQ := Lib.hid hq
    have HP := Lib.hid hp
    clear hq hp HP2 HP4
    by_cases hlt : k < 300
    · obtain ⟨nn, de, gn, gd, a2, c1', c2', u1, u2, u3, u4, sb, tb, e0, e1, e2, e3, e4, e5, e6, LO, CA, SG, SZ, CB⟩ := HRF.out k j hlt hj
      have HLO := Lib.hid LO
      have HCA := Lib.hid CA
      have HSG := Lib.hid SG
      have HSZ := Lib.hid SZ
      have HCB := Lib.hid CB
      have HEQ := Lib.hid e0
      have HE := Lib.hid (And.intro (show IntKind.i64.wrap (6 * ab) = u1 by rw [IntKind.wrap_i64]; unfold wrap64 at e1; exact e1) (And.intro (show IntKind.i64.wrap (md * ww) = u2 by rw [IntKind.wrap_i64]; unfold wrap64 at e2; exact e2) (And.intro (show IntKind.i64.wrap (u2 * j) = u3 by rw [IntKind.wrap_i64]; unfold wrap64 at e3; exact e3) (And.intro (show IntKind.i64.wrap (u3 * j) = u4 by rw [IntKind.wrap_i64]; unfold wrap64 at e4; exact e4) (And.intro e5 e6)))))
      clear LO CA SG SZ CB e0 e1 e2 e3 e4 e5 e6
      have hj3 : (j : Int) ≤ 300 := by omega
      have HJ := Lib.hid hj
      clear hj
      obtain ⟨bW, c0, c1, c2, c3, c4, c5, c6, c7, c8, c9, c10, z⟩ := HP.out
      go_upto_region 7 with fail
      have HP5 := Lib.hid (rtP_set (m := (j : Int)) hne HP.out)
      obtain ⟨w5, hw5⟩ : ∃ w5, wr.setCell ⟨w.heap.size, 2, none⟩ (.int .i64 (j : Int)) = w5 := ⟨_, rfl⟩
      rw [hw5] at HP5 ⊢
      clear hw5 bW c0 c1 c2 c3 c4 c5 c6 c7 c8 c9 c10 z
      have HC5 := Lib.hid (fun wx (hb : Below w5.heap.size w5 wx) => rtP_below HP5.out hb)
      unfold RtP at HC5
      refine wp_region_rkt [35, 36, 37, 38, 39, 40, 41, 42, 43, 44, 45, 46, 47, 48, 14] [rEq (.pointer (some ⟨pM, 0, none⟩)), rEq (.int .i64 mn), rEq (.int .i64 ab), rEq (.int .i64 u1), rEq (.pointer (some ⟨pM, 1, none⟩)), rEq (.int .i64 md), rEq (.pointer (some ⟨w.heap.size, 1, none⟩)), rEq (.int .i64 ww), rEq (.int .i64 u2), rEq (.int .i64 (j : Int)), rEq (.int .i64 u3), rEq (.int .i64 (j : Int)), rEq (.int .i64 u4), rEq (.agg #[.int .i64 nn, .int .i64 de]), (rPtr0 w5.heap.size)] (by kernel_rfl) (by kernel_rfl) (by decide) rfl ⟨?_, ?_, ?_, ?_, ?_, ?_, ?_, ?_, ?_, ?_, ?_, ?_, ?_, ?_, ?_, trivial⟩ ?_
      · intro ac wx hf hb hd -- 0
        have f10 : ac.tmps[10]?.getD undef = .pointer (some ⟨pM, 0, none⟩) := by rw [← Array.getD_eq_getD_getElem?]; exact hf.same 10 (by decide)
        exact rstep_eq (by simp [execOp, Act.eval, f10, go_sem]) rfl
      · intro ac wx hf hb hd -- 1
        have d0 : ac.tmps[35]?.getD undef = .pointer (some ⟨pM, 0, none⟩) := by rw [← Array.getD_eq_getD_getElem?]; exact hd 0 (by decide)
        obtain ⟨bW, c0, c1, c2, c3, c4, c5, c6, c7, c8, c9, c10, z⟩ := HC5.out wx hb
        exact rstep_eq (by simp [execOp, Act.eval, d0, c9, go_sem]) rfl
      · intro ac wx hf hb hd -- 2
        have d1 : ac.tmps[36]?.getD undef = .int .i64 mn := by rw [← Array.getD_eq_getD_getElem?]; exact hd 1 (by decide)
        refine rstep_call (f := 104) (args := #[.int .i64 mn]) (by simp [Act.eval, d1, go_sem]) ?_ rfl
        exact (HAB.out wx).mono fun e w' ⟨he, hw⟩ => ⟨he, hw ▸ Below.refl _ _⟩
      · intro ac wx hf hb hd -- 3
        have d2 : ac.tmps[37]?.getD undef = .int .i64 ab := by rw [← Array.getD_eq_getD_getElem?]; exact hd 2 (by decide)
        exact rstep_eq (by simp [execOp, Act.eval, d2, HE.out.1, go_sem]) rfl
      · intro ac wx hf hb hd -- 4
        have f10 : ac.tmps[10]?.getD undef = .pointer (some ⟨pM, 0, none⟩) := by rw [← Array.getD_eq_getD_getElem?]; exact hf.same 10 (by decide)
        exact rstep_eq (by simp [execOp, Act.eval, f10, go_sem]) rfl
      · intro ac wx hf hb hd -- 5
        have d4 : ac.tmps[39]?.getD undef = .pointer (some ⟨pM, 1, none⟩) := by rw [← Array.getD_eq_getD_getElem?]; exact hd 4 (by decide)
        obtain ⟨bW, c0, c1, c2, c3, c4, c5, c6, c7, c8, c9, c10, z⟩ := HC5.out wx hb
        exact rstep_eq (by simp [execOp, Act.eval, d4, c10, go_sem]) rfl
      · intro ac wx hf hb hd -- 6
        have f4 : ac.tmps[4]?.getD undef = .pointer (some ⟨w.heap.size, 0, none⟩) := by rw [← Array.getD_eq_getD_getElem?]; exact hf.same 4 (by decide)
        exact rstep_eq (by simp [execOp, Act.eval, f4, go_sem]) rfl
      · intro ac wx hf hb hd -- 7
        have d6 : ac.tmps[41]?.getD undef = .pointer (some ⟨w.heap.size, 1, none⟩) := by rw [← Array.getD_eq_getD_getElem?]; exact hd 6 (by decide)
        obtain ⟨bW, c0, c1, c2, c3, c4, c5, c6, c7, c8, c9, c10, z⟩ := HC5.out wx hb
        exact rstep_eq (by simp [execOp, Act.eval, d6, c1, go_sem]) rfl
      · intro ac wx hf hb hd -- 8
        have d5 : ac.tmps[40]?.getD undef = .int .i64 md := by rw [← Array.getD_eq_getD_getElem?]; exact hd 5 (by decide)
        have d7 : ac.tmps[42]?.getD undef = .int .i64 ww := by rw [← Array.getD_eq_getD_getElem?]; exact hd 7 (by decide)
        exact rstep_eq (by simp [execOp, Act.eval, d5, d7, HE.out.2.1, go_sem]) rfl
      · intro ac wx hf hb hd -- 9
        have f13 : ac.tmps[13]?.getD undef = .int .i64 (j : Int) := by rw [← Array.getD_eq_getD_getElem?]; exact hf.same 13 (by decide)
        exact rstep_eq (by simp [execOp, Act.eval, f13, go_sem]) rfl
      · intro ac wx hf hb hd -- 10
        have d8 : ac.tmps[43]?.getD undef = .int .i64 u2 := by rw [← Array.getD_eq_getD_getElem?]; exact hd 8 (by decide)
        have d9 : ac.tmps[44]?.getD undef = .int .i64 (j : Int) := by rw [← Array.getD_eq_getD_getElem?]; exact hd 9 (by decide)
        exact rstep_eq (by simp [execOp, Act.eval, d8, d9, HE.out.2.2.1, go_sem]) rfl
      · intro ac wx hf hb hd -- 11
        have f13 : ac.tmps[13]?.getD undef = .int .i64 (j : Int) := by rw [← Array.getD_eq_getD_getElem?]; exact hf.same 13 (by decide)
        exact rstep_eq (by simp [execOp, Act.eval, f13, go_sem]) rfl
      · intro ac wx hf hb hd -- 12
        have d10 : ac.tmps[45]?.getD undef = .int .i64 u3 := by rw [← Array.getD_eq_getD_getElem?]; exact hd 10 (by decide)
        have d11 : ac.tmps[46]?.getD undef = .int .i64 (j : Int) := by rw [← Array.getD_eq_getD_getElem?]; exact hd 11 (by decide)
        exact rstep_eq (by simp [execOp, Act.eval, d10, d11, HE.out.2.2.2.1, go_sem]) rfl
      · intro ac wx hf hb hd -- 13
        have d3 : ac.tmps[38]?.getD undef = .int .i64 u1 := by rw [← Array.getD_eq_getD_getElem?]; exact hd 3 (by decide)
        have d12 : ac.tmps[47]?.getD undef = .int .i64 u4 := by rw [← Array.getD_eq_getD_getElem?]; exact hd 12 (by decide)
        refine rstep_call (f := 89) (args := #[.int .i64 u1, .int .i64 u4]) (by simp [Act.eval, d3, d12, go_sem]) ?_ rfl
        exact HLO.out wx
      · intro ac wx hf hb hd -- 14
        exact rstep_alloc hb.size (by simp [execOp, go_sem]) rfl
      rintro ⟨⟨ll⟩, df⟩ w6 hf hbw6 hall
      have hdf : df = [] := hf.defers
      subst hdf
      have hsz : ll.length = 71 := hf.size
      obtain ⟨x0, ll0, rfl, hsz0⟩ := cons_of hsz
      obtain ⟨x1, ll1, rfl, hsz1⟩ := cons_of hsz0
      obtain ⟨x2, ll2, rfl, hsz2⟩ := cons_of hsz1
      obtain ⟨x3, ll3, rfl, hsz3⟩ := cons_of hsz2
      obtain ⟨x4, ll4, rfl, hsz4⟩ := cons_of hsz3
      obtain ⟨x5, ll5, rfl, hsz5⟩ := cons_of hsz4
      obtain ⟨x6, ll6, rfl, hsz6⟩ := cons_of hsz5
      obtain ⟨x7, ll7, rfl, hsz7⟩ := cons_of hsz6
      obtain ⟨x8, ll8, rfl, hsz8⟩ := cons_of hsz7
      obtain ⟨x9, ll9, rfl, hsz9⟩ := cons_of hsz8
      obtain ⟨x10, ll10, rfl, hsz10⟩ := cons_of hsz9
      obtain ⟨x11, ll11, rfl, hsz11⟩ := cons_of hsz10
      obtain ⟨x12, ll12, rfl, hsz12⟩ := cons_of hsz11
      obtain ⟨x13, ll13, rfl, hsz13⟩ := cons_of hsz12
      obtain ⟨x14, ll14, rfl, hsz14⟩ := cons_of hsz13
      obtain ⟨x15, ll15, rfl, hsz15⟩ := cons_of hsz14
      obtain ⟨x16, ll16, rfl, hsz16⟩ := cons_of hsz15
      obtain ⟨x17, ll17, rfl, hsz17⟩ := cons_of hsz16
      obtain ⟨x18, ll18, rfl, hsz18⟩ := cons_of hsz17
      obtain ⟨x19, ll19, rfl, hsz19⟩ := cons_of hsz18
      obtain ⟨x20, ll20, rfl, hsz20⟩ := cons_of hsz19
      obtain ⟨x21, ll21, rfl, hsz21⟩ := cons_of hsz20
      obtain ⟨x22, ll22, rfl, hsz22⟩ := cons_of hsz21
      obtain ⟨x23, ll23, rfl, hsz23⟩ := cons_of hsz22
      obtain ⟨x24, ll24, rfl, hsz24⟩ := cons_of hsz23
      obtain ⟨x25, ll25, rfl, hsz25⟩ := cons_of hsz24
      obtain ⟨x26, ll26, rfl, hsz26⟩ := cons_of hsz25
      obtain ⟨x27, ll27, rfl, hsz27⟩ := cons_of hsz26
      obtain ⟨x28, ll28, rfl, hsz28⟩ := cons_of hsz27
      obtain ⟨x29, ll29, rfl, hsz29⟩ := cons_of hsz28
      obtain ⟨x30, ll30, rfl, hsz30⟩ := cons_of hsz29
      obtain ⟨x31, ll31, rfl, hsz31⟩ := cons_of hsz30
      obtain ⟨x32, ll32, rfl, hsz32⟩ := cons_of hsz31
      obtain ⟨x33, ll33, rfl, hsz33⟩ := cons_of hsz32
      obtain ⟨x34, ll34, rfl, hsz34⟩ := cons_of hsz33
      obtain ⟨x35, ll35, rfl, hsz35⟩ := cons_of hsz34
      obtain ⟨x36, ll36, rfl, hsz36⟩ := cons_of hsz35
      obtain ⟨x37, ll37, rfl, hsz37⟩ := cons_of hsz36
      obtain ⟨x38, ll38, rfl, hsz38⟩ := cons_of hsz37
      obtain ⟨x39, ll39, rfl, hsz39⟩ := cons_of hsz38
      obtain ⟨x40, ll40, rfl, hsz40⟩ := cons_of hsz39
      obtain ⟨x41, ll41, rfl, hsz41⟩ := cons_of hsz40
      obtain ⟨x42, ll42, rfl, hsz42⟩ := cons_of hsz41
      obtain ⟨x43, ll43, rfl, hsz43⟩ := cons_of hsz42
      obtain ⟨x44, ll44, rfl, hsz44⟩ := cons_of hsz43
      obtain ⟨x45, ll45, rfl, hsz45⟩ := cons_of hsz44
      obtain ⟨x46, ll46, rfl, hsz46⟩ := cons_of hsz45
      obtain ⟨x47, ll47, rfl, hsz47⟩ := cons_of hsz46
      obtain ⟨x48, ll48, rfl, hsz48⟩ := cons_of hsz47
      obtain ⟨x49, ll49, rfl, hsz49⟩ := cons_of hsz48
      obtain ⟨x50, ll50, rfl, hsz50⟩ := cons_of hsz49
      obtain ⟨x51, ll51, rfl, hsz51⟩ := cons_of hsz50
      obtain ⟨x52, ll52, rfl, hsz52⟩ := cons_of hsz51
      obtain ⟨x53, ll53, rfl, hsz53⟩ := cons_of hsz52
      obtain ⟨x54, ll54, rfl, hsz54⟩ := cons_of hsz53
      obtain ⟨x55, ll55, rfl, hsz55⟩ := cons_of hsz54
      obtain ⟨x56, ll56, rfl, hsz56⟩ := cons_of hsz55
      obtain ⟨x57, ll57, rfl, hsz57⟩ := cons_of hsz56
      obtain ⟨x58, ll58, rfl, hsz58⟩ := cons_of hsz57
      obtain ⟨x59, ll59, rfl, hsz59⟩ := cons_of hsz58
      obtain ⟨x60, ll60, rfl, hsz60⟩ := cons_of hsz59
      obtain ⟨x61, ll61, rfl, hsz61⟩ := cons_of hsz60
      obtain ⟨x62, ll62, rfl, hsz62⟩ := cons_of hsz61
      obtain ⟨x63, ll63, rfl, hsz63⟩ := cons_of hsz62
      obtain ⟨x64, ll64, rfl, hsz64⟩ := cons_of hsz63
      obtain ⟨x65, ll65, rfl, hsz65⟩ := cons_of hsz64
      obtain ⟨x66, ll66, rfl, hsz66⟩ := cons_of hsz65
      obtain ⟨x67, ll67, rfl, hsz67⟩ := cons_of hsz66
      obtain ⟨x68, ll68, rfl, hsz68⟩ := cons_of hsz67
      obtain ⟨x69, ll69, rfl, hsz69⟩ := cons_of hsz68
      obtain ⟨x70, ll70, rfl, hsz70⟩ := cons_of hsz69
      obtain rfl := List.eq_nil_of_length_eq_zero hsz70
      obtain rfl : x0 = .agg #[.int .i64 s, .int .i64 ww, .int .i64 t, .int .i64 en] := hf.same 0 (by decide)
      obtain rfl : x1 = .agg #[.int .i64 lo, .int .i64 hi, .int .i64 st] := hf.same 1 (by decide)
      obtain rfl : x2 = .agg #[.slice A n c, .int .i64 S] := hf.same 2 (by decide)
      obtain rfl : x3 = .int .i64 r := hf.same 3 (by decide)
      obtain rfl : x4 = .pointer (some ⟨w.heap.size, 0, none⟩) := hf.same 4 (by decide)
      obtain rfl : x5 = .pointer (some ⟨w.heap.size + 1, 0, none⟩) := hf.same 5 (by decide)
      obtain rfl : x6 = .pointer (some ⟨w.heap.size + 1 + 1, 0, none⟩) := hf.same 6 (by decide)
      obtain rfl : x7 = undef := hf.same 7 (by decide)
      obtain rfl : x9 = .int .i64 pg := hf.same 9 (by decide)
      obtain rfl : x10 = .pointer (some ⟨pM, 0, none⟩) := hf.same 10 (by decide)
      obtain rfl : x11 = .int .i64 pl := hf.same 11 (by decide)
      obtain rfl : x12 = .pointer (some ⟨w3.heap.size, 0, none⟩) := hf.same 12 (by decide)
      obtain rfl : x13 = .int .i64 (j : Int) := hf.same 13 (by decide)
      obtain rfl : x15 = .tuple #[.int .i64 pg, .agg #[.int .i64 mn, .int .i64 md]] := hf.same 15 (by decide)
      obtain rfl : x16 = .agg #[.int .i64 s, .int .i64 ww, .int .i64 t, .int .i64 en] := hf.same 16 (by decide)
      obtain rfl : x17 = .agg #[.slice A n c, .int .i64 S] := hf.same 17 (by decide)
      obtain rfl : x18 = .tuple #[.int .i64 pg, .agg #[.int .i64 mn, .int .i64 md]] := hf.same 18 (by decide)
      obtain rfl : x19 = .int .i64 pg := hf.same 19 (by decide)
      obtain rfl : x20 = .agg #[.int .i64 mn, .int .i64 md] := hf.same 20 (by decide)
      obtain rfl : x21 = .tuple #[.int .i64 pl, .agg #[.int .i64 un, .int .i64 ud]] := hf.same 21 (by decide)
      obtain rfl : x22 = .agg #[.int .i64 s, .int .i64 ww, .int .i64 t, .int .i64 en] := hf.same 22 (by decide)
      obtain rfl : x23 = .pointer (some ⟨w.heap.size + 1, 0, none⟩) := hf.same 23 (by decide)
      obtain rfl : x24 = .int .i64 lo := hf.same 24 (by decide)
      obtain rfl : x25 = .agg #[.slice A n c, .int .i64 S] := hf.same 25 (by decide)
      obtain rfl : x26 = .tuple #[.int .i64 pl, .agg #[.int .i64 un, .int .i64 ud]] := hf.same 26 (by decide)
      obtain rfl : x27 = .int .i64 pl := hf.same 27 (by decide)
      obtain rfl : x28 = .agg #[.int .i64 un, .int .i64 ud] := hf.same 28 (by decide)
      obtain rfl : x35 = .pointer (some ⟨pM, 0, none⟩) := hall 0 35 rfl
      obtain rfl : x36 = .int .i64 mn := hall 1 36 rfl
      obtain rfl : x37 = .int .i64 ab := hall 2 37 rfl
      obtain rfl : x38 = .int .i64 u1 := hall 3 38 rfl
      obtain rfl : x39 = .pointer (some ⟨pM, 1, none⟩) := hall 4 39 rfl
      obtain rfl : x40 = .int .i64 md := hall 5 40 rfl
      obtain rfl : x41 = .pointer (some ⟨w.heap.size, 1, none⟩) := hall 6 41 rfl
      obtain rfl : x42 = .int .i64 ww := hall 7 42 rfl
      obtain rfl : x43 = .int .i64 u2 := hall 8 43 rfl
      obtain rfl : x44 = .int .i64 (j : Int) := hall 9 44 rfl
      obtain rfl : x45 = .int .i64 u3 := hall 10 45 rfl
      obtain rfl : x46 = .int .i64 (j : Int) := hall 11 46 rfl
      obtain rfl : x47 = .int .i64 u4 := hall 12 47 rfl
      obtain rfl : x48 = .agg #[.int .i64 nn, .int .i64 de] := hall 13 48 rfl
      obtain ⟨pS, hxS, plS, psS, pa0, pc0, z0S, z1S⟩ : ∃ blk, x14 = .pointer (some ⟨blk, 0, none⟩) ∧ w5.heap.size ≤ blk ∧ blk < w6.heap.size ∧ w6.cell? ⟨blk, 0, none⟩ = some (.int .i64 0) ∧ w6.cell? ⟨blk, 1, none⟩ = some (.int .i64 0) ∧ w6.frozen? ⟨blk, 0, none⟩ = false ∧ w6.frozen? ⟨blk, 1, none⟩ = false := hall 14 14 rfl
      subst hxS
      clear hall hf
      intro o ho
      have ho2 : _ = o := Option.some.inj ho
      subst ho2
      clear ho
      clear hsz hsz0 hsz1 hsz2 hsz3 hsz4 hsz5 hsz6 hsz7 hsz8 hsz9 hsz10 hsz11 hsz12 hsz13 hsz14 hsz15 hsz16 hsz17 hsz18 hsz19 hsz20 hsz21 hsz22 hsz23 hsz24 hsz25 hsz26 hsz27 hsz28 hsz29 hsz30 hsz31 hsz32 hsz33 hsz34 hsz35 hsz36 hsz37 hsz38 hsz39 hsz40 hsz41 hsz42 hsz43 hsz44 hsz45 hsz46 hsz47 hsz48 hsz49 hsz50 hsz51 hsz52 hsz53 hsz54 hsz55 hsz56 hsz57 hsz58 hsz59 hsz60 hsz61 hsz62 hsz63 hsz64 hsz65 hsz66 hsz67 hsz68 hsz69 hsz70
      refine wp_storeF (bb := pS) (u := nn) (v := de) rfl rfl rfl rfl z0S z1S pa0 pc0 ?_
      obtain ⟨w7, hw7⟩ : ∃ w7, (w6.setCell ⟨pS, 0, none⟩ (.int .i64 nn)).setCell ⟨pS, 1, none⟩ (.int .i64 de) = w7 := ⟨_, rfl⟩
      have G7 : Hid (Below w5.heap.size w5 w7) := Lib.hid (by rw [← hw7]; exact (hbw6.setCell (p := ⟨pS, 0, none⟩) plS _).setCell (p := ⟨pS, 1, none⟩) plS _)
      have HY : Hid (w7.cell? ⟨pS, 0, none⟩ = some (.int .i64 nn) ∧ w7.cell? ⟨pS, 1, none⟩ = some (.int .i64 de) ∧ pS < w7.heap.size) := Lib.hid (by rw [← hw7]; exact ⟨(World.cell?_setCell_other _ _ _ _ (by simp)).trans (World.cell?_setCell_same _ _ _ pa0), World.cell?_setCell_same _ _ _ ((World.cell?_setCell_other _ _ _ _ (by simp)).trans pc0), by simpa using psS⟩)
      rw [hw7]
      clear hw7 pa0 pc0 z0S z1S psS plS hbw6
      go_upto_region 8 with fail
      have HP7 := Lib.hid (rtP_below HP5.out G7.out)
      have HC7 := Lib.hid (fun wx (hb : Below w7.heap.size w7 wx) => let h := HC5.out wx (G7.out.trans (hb.mono G7.out.size)); And.intro (h.1) (And.intro (h.2.1) (And.intro (h.2.2.1) (And.intro (h.2.2.2.1) (And.intro (h.2.2.2.2.1) (And.intro (h.2.2.2.2.2.1) (And.intro (h.2.2.2.2.2.2.1) (And.intro (h.2.2.2.2.2.2.2.1) (And.intro (h.2.2.2.2.2.2.2.2.1) (And.intro (h.2.2.2.2.2.2.2.2.2.1) (And.intro (h.2.2.2.2.2.2.2.2.2.2.1) (And.intro (h.2.2.2.2.2.2.2.2.2.2.2.1) (And.intro (h.2.2.2.2.2.2.2.2.2.2.2.2) (And.intro (((bcell hb).1 _ _ HY.out.2.2).trans HY.out.1) (((bcell hb).1 _ _ HY.out.2.2).trans HY.out.2.1)))))))))))))))
      clear HC5
      cases sb
      · refine wp_region_rkg [49, 50, 51, 52, 53, 54, 55, 56, 57, 58, 59, 60, 61, 62, 63, 64, 65, 66, 67, 68, 69] [rEq (.agg #[.int .i64 nn, .int .i64 de]), rEq (.pointer (some ⟨w.heap.size + 1, 2, none⟩)), rEq (.int .i64 st), rEq (.agg #[.int .i64 st, .int .i64 1]), rEq (.int .i64 c1'), rEq (.bool false), rEq (.bool false), (rAny), (rAny), (rAny), (rAny), (rAny), (rAny), (rAny), (rAny), (rAny), (rAny), (rAny), (rAny), (rAny), rEq (.bool false)] (by kernel_rfl) (by kernel_rfl) (by decide) rfl ⟨?_, ?_, ?_, ?_, ?_, ?_, ?_, ?_, ?_, ?_, ?_, ?_, ?_, ?_, ?_, ?_, ?_, ?_, ?_, ?_, ?_, trivial⟩ ?_
        · intro ac wx hf hb hd -- 0
          refine .inl ⟨wanted_free rfl, ?_⟩
          have f14 : ac.tmps[14]?.getD undef = .pointer (some ⟨pS, 0, none⟩) := by rw [← Array.getD_eq_getD_getElem?]; exact hf.same 14 (by decide)
          obtain ⟨bW, c0, c1, c2, c3, c4, c5, c6, c7, c8, c9, c10, z, y0, y1⟩ := HC7.out wx hb
          exact rstep_eq (by simp [execOp, Act.eval, f14, y0, y1, go_sem]) rfl
        · intro ac wx hf hb hd -- 1
          refine .inl ⟨wanted_free rfl, ?_⟩
          have f5 : ac.tmps[5]?.getD undef = .pointer (some ⟨w.heap.size + 1, 0, none⟩) := by rw [← Array.getD_eq_getD_getElem?]; exact hf.same 5 (by decide)
          exact rstep_eq (by simp [execOp, Act.eval, f5, go_sem]) rfl
        · intro ac wx hf hb hd -- 2
          refine .inl ⟨wanted_free rfl, ?_⟩
          have d1 : ac.tmps[50]?.getD undef = .pointer (some ⟨w.heap.size + 1, 2, none⟩) := by rw [← Array.getD_eq_getD_getElem?]; exact hd 1 (by decide)
          obtain ⟨bW, c0, c1, c2, c3, c4, c5, c6, c7, c8, c9, c10, z, y0, y1⟩ := HC7.out wx hb
          exact rstep_eq (by simp [execOp, Act.eval, d1, c6, go_sem]) rfl
        · intro ac wx hf hb hd -- 3
          refine .inl ⟨wanted_free rfl, ?_⟩
          have d2 : ac.tmps[51]?.getD undef = .int .i64 st := by rw [← Array.getD_eq_getD_getElem?]; exact hd 2 (by decide)
          exact rstep_eq (by simp [execOp, Act.eval, d2, go_sem]) rfl
        · intro ac wx hf hb hd -- 4
          refine .inl ⟨wanted_free rfl, ?_⟩
          have d0 : ac.tmps[49]?.getD undef = .agg #[.int .i64 nn, .int .i64 de] := by rw [← Array.getD_eq_getD_getElem?]; exact hd 0 (by decide)
          have d3 : ac.tmps[52]?.getD undef = .agg #[.int .i64 st, .int .i64 1] := by rw [← Array.getD_eq_getD_getElem?]; exact hd 3 (by decide)
          refine rstep_call (f := 50) (args := #[.agg #[.int .i64 nn, .int .i64 de], .agg #[.int .i64 st, .int .i64 1]]) (by simp [Act.eval, d0, d3, go_sem]) ?_ rfl
          exact HCA.out wx
        · intro ac wx hf hb hd -- 5
          refine .inl ⟨wanted_free rfl, ?_⟩
          have d4 : ac.tmps[53]?.getD undef = .int .i64 c1' := by rw [← Array.getD_eq_getD_getElem?]; exact hd 4 (by decide)
          exact rstep_eq (by simp [execOp, Act.eval, d4, HE.out.2.2.2.2.1, go_sem]) rfl
        · intro ac wx hf hb hd -- 6
          refine .inl ⟨wanted_free rfl, ?_⟩
          have d5 : ac.tmps[54]?.getD undef = .bool false := by rw [← Array.getD_eq_getD_getElem?]; exact hd 5 (by decide)
          exact rstep_eq (by simp [execOp, Act.eval, d5, go_sem]) rfl
        · intro ac wx hf hb hd -- 7
          exact .inr ⟨wanted_not (j := 6) (d := 55) (b := true) rfl rfl (hd 6 (by decide)), by first | exact trivial | rfl⟩
        · intro ac wx hf hb hd -- 8
          exact .inr ⟨wanted_not (j := 6) (d := 55) (b := true) rfl rfl (hd 6 (by decide)), by first | exact trivial | rfl⟩
        · intro ac wx hf hb hd -- 9
          exact .inr ⟨wanted_not (j := 6) (d := 55) (b := true) rfl rfl (hd 6 (by decide)), by first | exact trivial | rfl⟩
        · intro ac wx hf hb hd -- 10
          exact .inr ⟨wanted_not (j := 6) (d := 55) (b := true) rfl rfl (hd 6 (by decide)), by first | exact trivial | rfl⟩
        · intro ac wx hf hb hd -- 11
          exact .inr ⟨wanted_not (j := 6) (d := 55) (b := true) rfl rfl (hd 6 (by decide)), by first | exact trivial | rfl⟩
        · intro ac wx hf hb hd -- 12
          exact .inr ⟨wanted_not (j := 6) (d := 55) (b := true) rfl rfl (hd 6 (by decide)), by first | exact trivial | rfl⟩
        · intro ac wx hf hb hd -- 13
          exact .inr ⟨wanted_not (j := 6) (d := 55) (b := true) rfl rfl (hd 6 (by decide)), by first | exact trivial | rfl⟩
        · intro ac wx hf hb hd -- 14
          exact .inr ⟨wanted_not (j := 6) (d := 55) (b := true) rfl rfl (hd 6 (by decide)), by first | exact trivial | rfl⟩
        · intro ac wx hf hb hd -- 15
          exact .inr ⟨wanted_not (j := 6) (d := 55) (b := true) rfl rfl (hd 6 (by decide)), by first | exact trivial | rfl⟩
        · intro ac wx hf hb hd -- 16
          exact .inr ⟨wanted_not (j := 6) (d := 55) (b := true) rfl rfl (hd 6 (by decide)), by first | exact trivial | rfl⟩
        · intro ac wx hf hb hd -- 17
          exact .inr ⟨wanted_not (j := 6) (d := 55) (b := true) rfl rfl (hd 6 (by decide)), by first | exact trivial | rfl⟩
        · intro ac wx hf hb hd -- 18
          exact .inr ⟨wanted_not (j := 6) (d := 55) (b := true) rfl rfl (hd 6 (by decide)), by first | exact trivial | rfl⟩
        · intro ac wx hf hb hd -- 19
          exact .inr ⟨wanted_not (j := 6) (d := 55) (b := true) rfl rfl (hd 6 (by decide)), by first | exact trivial | rfl⟩
        · intro ac wx hf hb hd -- 20
          refine .inl ⟨wanted_free rfl, ?_⟩
          have d6 : ac.tmps[55]?.getD undef = .bool false := by rw [← Array.getD_eq_getD_getElem?]; exact hd 6 (by decide)
          exact rstep_eq (by simp [execOp, Act.eval, d6, go_sem]) rfl
        rintro ⟨⟨ll⟩, df⟩ wx hf hb hall
        have hdf : df = [] := hf.defers
        subst hdf
        have hsz : ll.length = 71 := hf.size
        obtain ⟨x0, ll0, rfl, hsz0⟩ := cons_of hsz
        obtain ⟨x1, ll1, rfl, hsz1⟩ := cons_of hsz0
        obtain ⟨x2, ll2, rfl, hsz2⟩ := cons_of hsz1
        obtain ⟨x3, ll3, rfl, hsz3⟩ := cons_of hsz2
        obtain ⟨x4, ll4, rfl, hsz4⟩ := cons_of hsz3
        obtain ⟨x5, ll5, rfl, hsz5⟩ := cons_of hsz4
        obtain ⟨x6, ll6, rfl, hsz6⟩ := cons_of hsz5
        obtain ⟨x7, ll7, rfl, hsz7⟩ := cons_of hsz6
        obtain ⟨x8, ll8, rfl, hsz8⟩ := cons_of hsz7
        obtain ⟨x9, ll9, rfl, hsz9⟩ := cons_of hsz8
        obtain ⟨x10, ll10, rfl, hsz10⟩ := cons_of hsz9
        obtain ⟨x11, ll11, rfl, hsz11⟩ := cons_of hsz10
        obtain ⟨x12, ll12, rfl, hsz12⟩ := cons_of hsz11
        obtain ⟨x13, ll13, rfl, hsz13⟩ := cons_of hsz12
        obtain ⟨x14, ll14, rfl, hsz14⟩ := cons_of hsz13
        obtain ⟨x15, ll15, rfl, hsz15⟩ := cons_of hsz14
        obtain ⟨x16, ll16, rfl, hsz16⟩ := cons_of hsz15
        obtain ⟨x17, ll17, rfl, hsz17⟩ := cons_of hsz16
        obtain ⟨x18, ll18, rfl, hsz18⟩ := cons_of hsz17
        obtain ⟨x19, ll19, rfl, hsz19⟩ := cons_of hsz18
        obtain ⟨x20, ll20, rfl, hsz20⟩ := cons_of hsz19
        obtain ⟨x21, ll21, rfl, hsz21⟩ := cons_of hsz20
        obtain ⟨x22, ll22, rfl, hsz22⟩ := cons_of hsz21
        obtain ⟨x23, ll23, rfl, hsz23⟩ := cons_of hsz22
        obtain ⟨x24, ll24, rfl, hsz24⟩ := cons_of hsz23
        obtain ⟨x25, ll25, rfl, hsz25⟩ := cons_of hsz24
        obtain ⟨x26, ll26, rfl, hsz26⟩ := cons_of hsz25
        obtain ⟨x27, ll27, rfl, hsz27⟩ := cons_of hsz26
        obtain ⟨x28, ll28, rfl, hsz28⟩ := cons_of hsz27
        obtain ⟨x29, ll29, rfl, hsz29⟩ := cons_of hsz28
        obtain ⟨x30, ll30, rfl, hsz30⟩ := cons_of hsz29
        obtain ⟨x31, ll31, rfl, hsz31⟩ := cons_of hsz30
        obtain ⟨x32, ll32, rfl, hsz32⟩ := cons_of hsz31
        obtain ⟨x33, ll33, rfl, hsz33⟩ := cons_of hsz32
        obtain ⟨x34, ll34, rfl, hsz34⟩ := cons_of hsz33
        obtain ⟨x35, ll35, rfl, hsz35⟩ := cons_of hsz34
        obtain ⟨x36, ll36, rfl, hsz36⟩ := cons_of hsz35
        obtain ⟨x37, ll37, rfl, hsz37⟩ := cons_of hsz36
        obtain ⟨x38, ll38, rfl, hsz38⟩ := cons_of hsz37
        obtain ⟨x39, ll39, rfl, hsz39⟩ := cons_of hsz38
        obtain ⟨x40, ll40, rfl, hsz40⟩ := cons_of hsz39
        obtain ⟨x41, ll41, rfl, hsz41⟩ := cons_of hsz40
        obtain ⟨x42, ll42, rfl, hsz42⟩ := cons_of hsz41
        obtain ⟨x43, ll43, rfl, hsz43⟩ := cons_of hsz42
        obtain ⟨x44, ll44, rfl, hsz44⟩ := cons_of hsz43
        obtain ⟨x45, ll45, rfl, hsz45⟩ := cons_of hsz44
        obtain ⟨x46, ll46, rfl, hsz46⟩ := cons_of hsz45
        obtain ⟨x47, ll47, rfl, hsz47⟩ := cons_of hsz46
        obtain ⟨x48, ll48, rfl, hsz48⟩ := cons_of hsz47
        obtain ⟨x49, ll49, rfl, hsz49⟩ := cons_of hsz48
        obtain ⟨x50, ll50, rfl, hsz50⟩ := cons_of hsz49
        obtain ⟨x51, ll51, rfl, hsz51⟩ := cons_of hsz50
        obtain ⟨x52, ll52, rfl, hsz52⟩ := cons_of hsz51
        obtain ⟨x53, ll53, rfl, hsz53⟩ := cons_of hsz52
        obtain ⟨x54, ll54, rfl, hsz54⟩ := cons_of hsz53
        obtain ⟨x55, ll55, rfl, hsz55⟩ := cons_of hsz54
        obtain ⟨x56, ll56, rfl, hsz56⟩ := cons_of hsz55
        obtain ⟨x57, ll57, rfl, hsz57⟩ := cons_of hsz56
        obtain ⟨x58, ll58, rfl, hsz58⟩ := cons_of hsz57
        obtain ⟨x59, ll59, rfl, hsz59⟩ := cons_of hsz58
        obtain ⟨x60, ll60, rfl, hsz60⟩ := cons_of hsz59
        obtain ⟨x61, ll61, rfl, hsz61⟩ := cons_of hsz60
        obtain ⟨x62, ll62, rfl, hsz62⟩ := cons_of hsz61
        obtain ⟨x63, ll63, rfl, hsz63⟩ := cons_of hsz62
        obtain ⟨x64, ll64, rfl, hsz64⟩ := cons_of hsz63
        obtain ⟨x65, ll65, rfl, hsz65⟩ := cons_of hsz64
        obtain ⟨x66, ll66, rfl, hsz66⟩ := cons_of hsz65
        obtain ⟨x67, ll67, rfl, hsz67⟩ := cons_of hsz66
        obtain ⟨x68, ll68, rfl, hsz68⟩ := cons_of hsz67
        obtain ⟨x69, ll69, rfl, hsz69⟩ := cons_of hsz68
        obtain ⟨x70, ll70, rfl, hsz70⟩ := cons_of hsz69
        obtain rfl := List.eq_nil_of_length_eq_zero hsz70
        obtain rfl : x0 = .agg #[.int .i64 s, .int .i64 ww, .int .i64 t, .int .i64 en] := hf.same 0 (by decide)
        obtain rfl : x1 = .agg #[.int .i64 lo, .int .i64 hi, .int .i64 st] := hf.same 1 (by decide)
        obtain rfl : x2 = .agg #[.slice A n c, .int .i64 S] := hf.same 2 (by decide)
        obtain rfl : x3 = .int .i64 r := hf.same 3 (by decide)
        obtain rfl : x4 = .pointer (some ⟨w.heap.size, 0, none⟩) := hf.same 4 (by decide)
        obtain rfl : x5 = .pointer (some ⟨w.heap.size + 1, 0, none⟩) := hf.same 5 (by decide)
        obtain rfl : x6 = .pointer (some ⟨w.heap.size + 1 + 1, 0, none⟩) := hf.same 6 (by decide)
        obtain rfl : x7 = undef := hf.same 7 (by decide)
        obtain rfl : x9 = .int .i64 pg := hf.same 9 (by decide)
        obtain rfl : x10 = .pointer (some ⟨pM, 0, none⟩) := hf.same 10 (by decide)
        obtain rfl : x11 = .int .i64 pl := hf.same 11 (by decide)
        obtain rfl : x12 = .pointer (some ⟨w3.heap.size, 0, none⟩) := hf.same 12 (by decide)
        obtain rfl : x13 = .int .i64 (j : Int) := hf.same 13 (by decide)
        obtain rfl : x14 = .pointer (some ⟨pS, 0, none⟩) := hf.same 14 (by decide)
        obtain rfl : x15 = .tuple #[.int .i64 pg, .agg #[.int .i64 mn, .int .i64 md]] := hf.same 15 (by decide)
        obtain rfl : x16 = .agg #[.int .i64 s, .int .i64 ww, .int .i64 t, .int .i64 en] := hf.same 16 (by decide)
        obtain rfl : x17 = .agg #[.slice A n c, .int .i64 S] := hf.same 17 (by decide)
        obtain rfl : x18 = .tuple #[.int .i64 pg, .agg #[.int .i64 mn, .int .i64 md]] := hf.same 18 (by decide)
        obtain rfl : x19 = .int .i64 pg := hf.same 19 (by decide)
        obtain rfl : x20 = .agg #[.int .i64 mn, .int .i64 md] := hf.same 20 (by decide)
        obtain rfl : x21 = .tuple #[.int .i64 pl, .agg #[.int .i64 un, .int .i64 ud]] := hf.same 21 (by decide)
        obtain rfl : x22 = .agg #[.int .i64 s, .int .i64 ww, .int .i64 t, .int .i64 en] := hf.same 22 (by decide)
        obtain rfl : x23 = .pointer (some ⟨w.heap.size + 1, 0, none⟩) := hf.same 23 (by decide)
        obtain rfl : x24 = .int .i64 lo := hf.same 24 (by decide)
        obtain rfl : x25 = .agg #[.slice A n c, .int .i64 S] := hf.same 25 (by decide)
        obtain rfl : x26 = .tuple #[.int .i64 pl, .agg #[.int .i64 un, .int .i64 ud]] := hf.same 26 (by decide)
        obtain rfl : x27 = .int .i64 pl := hf.same 27 (by decide)
        obtain rfl : x28 = .agg #[.int .i64 un, .int .i64 ud] := hf.same 28 (by decide)
        obtain rfl : x49 = .agg #[.int .i64 nn, .int .i64 de] := hall 0 49 rfl
        obtain rfl : x50 = .pointer (some ⟨w.heap.size + 1, 2, none⟩) := hall 1 50 rfl
        obtain rfl : x51 = .int .i64 st := hall 2 51 rfl
        obtain rfl : x52 = .agg #[.int .i64 st, .int .i64 1] := hall 3 52 rfl
        obtain rfl : x53 = .int .i64 c1' := hall 4 53 rfl
        obtain rfl : x54 = .bool false := hall 5 54 rfl
        obtain rfl : x55 = .bool false := hall 6 55 rfl
        obtain rfl : x69 = .bool false := hall 20 69 rfl
        clear hall hf
        have HP8 := Lib.hid (rtP_below HP7.out hb)
        clear hsz hsz0 hsz1 hsz2 hsz3 hsz4 hsz5 hsz6 hsz7 hsz8 hsz9 hsz10 hsz11 hsz12 hsz13 hsz14 hsz15 hsz16 hsz17 hsz18 hsz19 hsz20 hsz21 hsz22 hsz23 hsz24 hsz25 hsz26 hsz27 hsz28 hsz29 hsz30 hsz31 hsz32 hsz33 hsz34 hsz35 hsz36 hsz37 hsz38 hsz39 hsz40 hsz41 hsz42 hsz43 hsz44 hsz45 hsz46 hsz47 hsz48 hsz49 hsz50 hsz51 hsz52 hsz53 hsz54 hsz55 hsz56 hsz57 hsz58 hsz59 hsz60 hsz61 hsz62 hsz63 hsz64 hsz65 hsz66 hsz67 hsz68 hsz69 hsz70
        clear hb
        go_wp2
        go_roundw
        case rel => exact rtI_step HJ.out hlt HQ.out HEQ.out HP8.out
        case measure => have := HJ.out; simp [intOf]; omega
      · cases tb
        · refine wp_region_rkg [49, 50, 51, 52, 53, 54, 55, 56, 57, 58, 59, 60, 61, 62, 63, 64, 65, 66, 67, 68, 69] [rEq (.agg #[.int .i64 nn, .int .i64 de]), rEq (.pointer (some ⟨w.heap.size + 1, 2, none⟩)), rEq (.int .i64 st), rEq (.agg #[.int .i64 st, .int .i64 1]), rEq (.int .i64 c1'), rEq (.bool true), rEq (.bool true), rEq (.agg #[.int .i64 s, .int .i64 ww, .int .i64 (j : Int), .int .i64 en]), rEq (.pointer (some ⟨w.heap.size + 1, 0, none⟩)), rEq (.int .i64 lo), rEq (.agg #[.slice A n c, .int .i64 S]), rEq (.int .i64 pl), rEq (.agg #[.int .i64 gn, .int .i64 gd]), rEq (.agg #[.int .i64 a2, .int .i64 gd]), rEq (.pointer (some ⟨w.heap.size, 0, none⟩)), rEq (.int .i64 s), rEq (.int .i64 r), rEq (.agg #[.int .i64 s, .int .i64 r]), rEq (.int .i64 c2'), rEq (.bool false), rEq (.bool false)] (by kernel_rfl) (by kernel_rfl) (by decide) rfl ⟨?_, ?_, ?_, ?_, ?_, ?_, ?_, ?_, ?_, ?_, ?_, ?_, ?_, ?_, ?_, ?_, ?_, ?_, ?_, ?_, ?_, trivial⟩ ?_
          · intro ac wx hf hb hd -- 0
            refine .inl ⟨wanted_free rfl, ?_⟩
            have f14 : ac.tmps[14]?.getD undef = .pointer (some ⟨pS, 0, none⟩) := by rw [← Array.getD_eq_getD_getElem?]; exact hf.same 14 (by decide)
            obtain ⟨bW, c0, c1, c2, c3, c4, c5, c6, c7, c8, c9, c10, z, y0, y1⟩ := HC7.out wx hb
            exact rstep_eq (by simp [execOp, Act.eval, f14, y0, y1, go_sem]) rfl
          · intro ac wx hf hb hd -- 1
            refine .inl ⟨wanted_free rfl, ?_⟩
            have f5 : ac.tmps[5]?.getD undef = .pointer (some ⟨w.heap.size + 1, 0, none⟩) := by rw [← Array.getD_eq_getD_getElem?]; exact hf.same 5 (by decide)
            exact rstep_eq (by simp [execOp, Act.eval, f5, go_sem]) rfl
          · intro ac wx hf hb hd -- 2
            refine .inl ⟨wanted_free rfl, ?_⟩
            have d1 : ac.tmps[50]?.getD undef = .pointer (some ⟨w.heap.size + 1, 2, none⟩) := by rw [← Array.getD_eq_getD_getElem?]; exact hd 1 (by decide)
            obtain ⟨bW, c0, c1, c2, c3, c4, c5, c6, c7, c8, c9, c10, z, y0, y1⟩ := HC7.out wx hb
            exact rstep_eq (by simp [execOp, Act.eval, d1, c6, go_sem]) rfl
          · intro ac wx hf hb hd -- 3
            refine .inl ⟨wanted_free rfl, ?_⟩
            have d2 : ac.tmps[51]?.getD undef = .int .i64 st := by rw [← Array.getD_eq_getD_getElem?]; exact hd 2 (by decide)
            exact rstep_eq (by simp [execOp, Act.eval, d2, go_sem]) rfl
          · intro ac wx hf hb hd -- 4
            refine .inl ⟨wanted_free rfl, ?_⟩
            have d0 : ac.tmps[49]?.getD undef = .agg #[.int .i64 nn, .int .i64 de] := by rw [← Array.getD_eq_getD_getElem?]; exact hd 0 (by decide)
            have d3 : ac.tmps[52]?.getD undef = .agg #[.int .i64 st, .int .i64 1] := by rw [← Array.getD_eq_getD_getElem?]; exact hd 3 (by decide)
            refine rstep_call (f := 50) (args := #[.agg #[.int .i64 nn, .int .i64 de], .agg #[.int .i64 st, .int .i64 1]]) (by simp [Act.eval, d0, d3, go_sem]) ?_ rfl
            exact HCA.out wx
          · intro ac wx hf hb hd -- 5
            refine .inl ⟨wanted_free rfl, ?_⟩
            have d4 : ac.tmps[53]?.getD undef = .int .i64 c1' := by rw [← Array.getD_eq_getD_getElem?]; exact hd 4 (by decide)
            exact rstep_eq (by simp [execOp, Act.eval, d4, HE.out.2.2.2.2.1, go_sem]) rfl
          · intro ac wx hf hb hd -- 6
            refine .inl ⟨wanted_free rfl, ?_⟩
            have d5 : ac.tmps[54]?.getD undef = .bool true := by rw [← Array.getD_eq_getD_getElem?]; exact hd 5 (by decide)
            exact rstep_eq (by simp [execOp, Act.eval, d5, go_sem]) rfl
          · intro ac wx hf hb hd -- 7
            refine .inl ⟨wanted_by (j := 6) (d := 55) (b := true) rfl rfl (hd 6 (by decide)), ?_⟩
            have f4 : ac.tmps[4]?.getD undef = .pointer (some ⟨w.heap.size, 0, none⟩) := by rw [← Array.getD_eq_getD_getElem?]; exact hf.same 4 (by decide)
            obtain ⟨bW, c0, c1, c2, c3, c4, c5, c6, c7, c8, c9, c10, z, y0, y1⟩ := HC7.out wx hb
            exact rstep_eq (by simp [execOp, Act.eval, f4, c0, c1, c2, c3, go_sem]) rfl
          · intro ac wx hf hb hd -- 8
            refine .inl ⟨wanted_by (j := 6) (d := 55) (b := true) rfl rfl (hd 6 (by decide)), ?_⟩
            have f5 : ac.tmps[5]?.getD undef = .pointer (some ⟨w.heap.size + 1, 0, none⟩) := by rw [← Array.getD_eq_getD_getElem?]; exact hf.same 5 (by decide)
            exact rstep_eq (by simp [execOp, Act.eval, f5, go_sem]) rfl
          · intro ac wx hf hb hd -- 9
            refine .inl ⟨wanted_by (j := 6) (d := 55) (b := true) rfl rfl (hd 6 (by decide)), ?_⟩
            have d8 : ac.tmps[57]?.getD undef = .pointer (some ⟨w.heap.size + 1, 0, none⟩) := by rw [← Array.getD_eq_getD_getElem?]; exact hd 8 (by decide)
            obtain ⟨bW, c0, c1, c2, c3, c4, c5, c6, c7, c8, c9, c10, z, y0, y1⟩ := HC7.out wx hb
            exact rstep_eq (by simp [execOp, Act.eval, d8, c4, go_sem]) rfl
          · intro ac wx hf hb hd -- 10
            refine .inl ⟨wanted_by (j := 6) (d := 55) (b := true) rfl rfl (hd 6 (by decide)), ?_⟩
            have f6 : ac.tmps[6]?.getD undef = .pointer (some ⟨w.heap.size + 2, 0, none⟩) := by rw [← Array.getD_eq_getD_getElem?]; exact hf.same 6 (by decide)
            obtain ⟨bW, c0, c1, c2, c3, c4, c5, c6, c7, c8, c9, c10, z, y0, y1⟩ := HC7.out wx hb
            exact rstep_eq (by simp [execOp, Act.eval, f6, c7, c8, go_sem]) rfl
          · intro ac wx hf hb hd -- 11
            refine .inl ⟨wanted_by (j := 6) (d := 55) (b := true) rfl rfl (hd 6 (by decide)), ?_⟩
            have f11 : ac.tmps[11]?.getD undef = .int .i64 pl := by rw [← Array.getD_eq_getD_getElem?]; exact hf.same 11 (by decide)
            exact rstep_eq (by simp [execOp, Act.eval, f11, go_sem]) rfl
          · intro ac wx hf hb hd -- 12
            refine .inl ⟨wanted_by (j := 6) (d := 55) (b := true) rfl rfl (hd 6 (by decide)), ?_⟩
            have d7 : ac.tmps[56]?.getD undef = .agg #[.int .i64 s, .int .i64 ww, .int .i64 (j : Int), .int .i64 en] := by rw [← Array.getD_eq_getD_getElem?]; exact hd 7 (by decide)
            have d9 : ac.tmps[58]?.getD undef = .int .i64 lo := by rw [← Array.getD_eq_getD_getElem?]; exact hd 9 (by decide)
            have d10 : ac.tmps[59]?.getD undef = .agg #[.slice A n c, .int .i64 S] := by rw [← Array.getD_eq_getD_getElem?]; exact hd 10 (by decide)
            have d11 : ac.tmps[60]?.getD undef = .int .i64 pl := by rw [← Array.getD_eq_getD_getElem?]; exact hd 11 (by decide)
            refine rstep_call (f := 43) (args := #[.agg #[.int .i64 s, .int .i64 ww, .int .i64 (j : Int), .int .i64 en], .int .i64 lo, .agg #[.slice A n c, .int .i64 S], .int .i64 pl]) (by simp [Act.eval, d7, d9, d10, d11, go_sem]) ?_ rfl
            exact HSG.out wx (HC7.out wx hb).1
          · intro ac wx hf hb hd -- 13
            refine .inl ⟨wanted_by (j := 6) (d := 55) (b := true) rfl rfl (hd 6 (by decide)), ?_⟩
            have d12 : ac.tmps[61]?.getD undef = .agg #[.int .i64 gn, .int .i64 gd] := by rw [← Array.getD_eq_getD_getElem?]; exact hd 12 (by decide)
            refine rstep_call (f := 118) (args := #[.agg #[.int .i64 gn, .int .i64 gd]]) (by simp [Act.eval, d12, go_sem]) ?_ rfl
            exact HSZ.out wx
          · intro ac wx hf hb hd -- 14
            refine .inl ⟨wanted_by (j := 6) (d := 55) (b := true) rfl rfl (hd 6 (by decide)), ?_⟩
            have f4 : ac.tmps[4]?.getD undef = .pointer (some ⟨w.heap.size, 0, none⟩) := by rw [← Array.getD_eq_getD_getElem?]; exact hf.same 4 (by decide)
            exact rstep_eq (by simp [execOp, Act.eval, f4, go_sem]) rfl
          · intro ac wx hf hb hd -- 15
            refine .inl ⟨wanted_by (j := 6) (d := 55) (b := true) rfl rfl (hd 6 (by decide)), ?_⟩
            have d14 : ac.tmps[63]?.getD undef = .pointer (some ⟨w.heap.size, 0, none⟩) := by rw [← Array.getD_eq_getD_getElem?]; exact hd 14 (by decide)
            obtain ⟨bW, c0, c1, c2, c3, c4, c5, c6, c7, c8, c9, c10, z, y0, y1⟩ := HC7.out wx hb
            exact rstep_eq (by simp [execOp, Act.eval, d14, c0, go_sem]) rfl
          · intro ac wx hf hb hd -- 16
            refine .inl ⟨wanted_by (j := 6) (d := 55) (b := true) rfl rfl (hd 6 (by decide)), ?_⟩
            have f3 : ac.tmps[3]?.getD undef = .int .i64 r := by rw [← Array.getD_eq_getD_getElem?]; exact hf.same 3 (by decide)
            exact rstep_eq (by simp [execOp, Act.eval, f3, go_sem]) rfl
          · intro ac wx hf hb hd -- 17
            refine .inl ⟨wanted_by (j := 6) (d := 55) (b := true) rfl rfl (hd 6 (by decide)), ?_⟩
            have d15 : ac.tmps[64]?.getD undef = .int .i64 s := by rw [← Array.getD_eq_getD_getElem?]; exact hd 15 (by decide)
            have d16 : ac.tmps[65]?.getD undef = .int .i64 r := by rw [← Array.getD_eq_getD_getElem?]; exact hd 16 (by decide)
            exact rstep_eq (by simp [execOp, Act.eval, d15, d16, go_sem]) rfl
          · intro ac wx hf hb hd -- 18
            refine .inl ⟨wanted_by (j := 6) (d := 55) (b := true) rfl rfl (hd 6 (by decide)), ?_⟩
            have d13 : ac.tmps[62]?.getD undef = .agg #[.int .i64 a2, .int .i64 gd] := by rw [← Array.getD_eq_getD_getElem?]; exact hd 13 (by decide)
            have d17 : ac.tmps[66]?.getD undef = .agg #[.int .i64 s, .int .i64 r] := by rw [← Array.getD_eq_getD_getElem?]; exact hd 17 (by decide)
            refine rstep_call (f := 50) (args := #[.agg #[.int .i64 a2, .int .i64 gd], .agg #[.int .i64 s, .int .i64 r]]) (by simp [Act.eval, d13, d17, go_sem]) ?_ rfl
            exact HCB.out wx
          · intro ac wx hf hb hd -- 19
            refine .inl ⟨wanted_by (j := 6) (d := 55) (b := true) rfl rfl (hd 6 (by decide)), ?_⟩
            have d18 : ac.tmps[67]?.getD undef = .int .i64 c2' := by rw [← Array.getD_eq_getD_getElem?]; exact hd 18 (by decide)
            exact rstep_eq (by simp [execOp, Act.eval, d18, HE.out.2.2.2.2.2, go_sem]) rfl
          · intro ac wx hf hb hd -- 20
            refine .inl ⟨wanted_free rfl, ?_⟩
            have d6 : ac.tmps[55]?.getD undef = .bool true := by rw [← Array.getD_eq_getD_getElem?]; exact hd 6 (by decide)
            have d19 : ac.tmps[68]?.getD undef = .bool false := by rw [← Array.getD_eq_getD_getElem?]; exact hd 19 (by decide)
            exact rstep_eq (by simp [execOp, Act.eval, d6, d19, go_sem]) rfl
          rintro ⟨⟨ll⟩, df⟩ wx hf hb hall
          have hdf : df = [] := hf.defers
          subst hdf
          have hsz : ll.length = 71 := hf.size
          obtain ⟨x0, ll0, rfl, hsz0⟩ := cons_of hsz
          obtain ⟨x1, ll1, rfl, hsz1⟩ := cons_of hsz0
          obtain ⟨x2, ll2, rfl, hsz2⟩ := cons_of hsz1
          obtain ⟨x3, ll3, rfl, hsz3⟩ := cons_of hsz2
          obtain ⟨x4, ll4, rfl, hsz4⟩ := cons_of hsz3
          obtain ⟨x5, ll5, rfl, hsz5⟩ := cons_of hsz4
          obtain ⟨x6, ll6, rfl, hsz6⟩ := cons_of hsz5
          obtain ⟨x7, ll7, rfl, hsz7⟩ := cons_of hsz6
          obtain ⟨x8, ll8, rfl, hsz8⟩ := cons_of hsz7
          obtain ⟨x9, ll9, rfl, hsz9⟩ := cons_of hsz8
          obtain ⟨x10, ll10, rfl, hsz10⟩ := cons_of hsz9
          obtain ⟨x11, ll11, rfl, hsz11⟩ := cons_of hsz10
          obtain ⟨x12, ll12, rfl, hsz12⟩ := cons_of hsz11
          obtain ⟨x13, ll13, rfl, hsz13⟩ := cons_of hsz12
          obtain ⟨x14, ll14, rfl, hsz14⟩ := cons_of hsz13
          obtain ⟨x15, ll15, rfl, hsz15⟩ := cons_of hsz14
          obtain ⟨x16, ll16, rfl, hsz16⟩ := cons_of hsz15
          obtain ⟨x17, ll17, rfl, hsz17⟩ := cons_of hsz16
          obtain ⟨x18, ll18, rfl, hsz18⟩ := cons_of hsz17
          obtain ⟨x19, ll19, rfl, hsz19⟩ := cons_of hsz18
          obtain ⟨x20, ll20, rfl, hsz20⟩ := cons_of hsz19
          obtain ⟨x21, ll21, rfl, hsz21⟩ := cons_of hsz20
          obtain ⟨x22, ll22, rfl, hsz22⟩ := cons_of hsz21
          obtain ⟨x23, ll23, rfl, hsz23⟩ := cons_of hsz22
          obtain ⟨x24, ll24, rfl, hsz24⟩ := cons_of hsz23
          obtain ⟨x25, ll25, rfl, hsz25⟩ := cons_of hsz24
          obtain ⟨x26, ll26, rfl, hsz26⟩ := cons_of hsz25
          obtain ⟨x27, ll27, rfl, hsz27⟩ := cons_of hsz26
          obtain ⟨x28, ll28, rfl, hsz28⟩ := cons_of hsz27
          obtain ⟨x29, ll29, rfl, hsz29⟩ := cons_of hsz28
          obtain ⟨x30, ll30, rfl, hsz30⟩ := cons_of hsz29
          obtain ⟨x31, ll31, rfl, hsz31⟩ := cons_of hsz30
          obtain ⟨x32, ll32, rfl, hsz32⟩ := cons_of hsz31
          obtain ⟨x33, ll33, rfl, hsz33⟩ := cons_of hsz32
          obtain ⟨x34, ll34, rfl, hsz34⟩ := cons_of hsz33
          obtain ⟨x35, ll35, rfl, hsz35⟩ := cons_of hsz34
          obtain ⟨x36, ll36, rfl, hsz36⟩ := cons_of hsz35
          obtain ⟨x37, ll37, rfl, hsz37⟩ := cons_of hsz36
          obtain ⟨x38, ll38, rfl, hsz38⟩ := cons_of hsz37
          obtain ⟨x39, ll39, rfl, hsz39⟩ := cons_of hsz38
          obtain ⟨x40, ll40, rfl, hsz40⟩ := cons_of hsz39
          obtain ⟨x41, ll41, rfl, hsz41⟩ := cons_of hsz40
          obtain ⟨x42, ll42, rfl, hsz42⟩ := cons_of hsz41
          obtain ⟨x43, ll43, rfl, hsz43⟩ := cons_of hsz42
          obtain ⟨x44, ll44, rfl, hsz44⟩ := cons_of hsz43
          obtain ⟨x45, ll45, rfl, hsz45⟩ := cons_of hsz44
          obtain ⟨x46, ll46, rfl, hsz46⟩ := cons_of hsz45
          obtain ⟨x47, ll47, rfl, hsz47⟩ := cons_of hsz46
          obtain ⟨x48, ll48, rfl, hsz48⟩ := cons_of hsz47
          obtain ⟨x49, ll49, rfl, hsz49⟩ := cons_of hsz48
          obtain ⟨x50, ll50, rfl, hsz50⟩ := cons_of hsz49
          obtain ⟨x51, ll51, rfl, hsz51⟩ := cons_of hsz50
          obtain ⟨x52, ll52, rfl, hsz52⟩ := cons_of hsz51
          obtain ⟨x53, ll53, rfl, hsz53⟩ := cons_of hsz52
          obtain ⟨x54, ll54, rfl, hsz54⟩ := cons_of hsz53
          obtain ⟨x55, ll55, rfl, hsz55⟩ := cons_of hsz54
          obtain ⟨x56, ll56, rfl, hsz56⟩ := cons_of hsz55
          obtain ⟨x57, ll57, rfl, hsz57⟩ := cons_of hsz56
          obtain ⟨x58, ll58, rfl, hsz58⟩ := cons_of hsz57
          obtain ⟨x59, ll59, rfl, hsz59⟩ := cons_of hsz58
          obtain ⟨x60, ll60, rfl, hsz60⟩ := cons_of hsz59
          obtain ⟨x61, ll61, rfl, hsz61⟩ := cons_of hsz60
          obtain ⟨x62, ll62, rfl, hsz62⟩ := cons_of hsz61
          obtain ⟨x63, ll63, rfl, hsz63⟩ := cons_of hsz62
          obtain ⟨x64, ll64, rfl, hsz64⟩ := cons_of hsz63
          obtain ⟨x65, ll65, rfl, hsz65⟩ := cons_of hsz64
          obtain ⟨x66, ll66, rfl, hsz66⟩ := cons_of hsz65
          obtain ⟨x67, ll67, rfl, hsz67⟩ := cons_of hsz66
          obtain ⟨x68, ll68, rfl, hsz68⟩ := cons_of hsz67
          obtain ⟨x69, ll69, rfl, hsz69⟩ := cons_of hsz68
          obtain ⟨x70, ll70, rfl, hsz70⟩ := cons_of hsz69
          obtain rfl := List.eq_nil_of_length_eq_zero hsz70
          obtain rfl : x0 = .agg #[.int .i64 s, .int .i64 ww, .int .i64 t, .int .i64 en] := hf.same 0 (by decide)
          obtain rfl : x1 = .agg #[.int .i64 lo, .int .i64 hi, .int .i64 st] := hf.same 1 (by decide)
          obtain rfl : x2 = .agg #[.slice A n c, .int .i64 S] := hf.same 2 (by decide)
          obtain rfl : x3 = .int .i64 r := hf.same 3 (by decide)
          obtain rfl : x4 = .pointer (some ⟨w.heap.size, 0, none⟩) := hf.same 4 (by decide)
          obtain rfl : x5 = .pointer (some ⟨w.heap.size + 1, 0, none⟩) := hf.same 5 (by decide)
          obtain rfl : x6 = .pointer (some ⟨w.heap.size + 1 + 1, 0, none⟩) := hf.same 6 (by decide)
          obtain rfl : x7 = undef := hf.same 7 (by decide)
          obtain rfl : x9 = .int .i64 pg := hf.same 9 (by decide)
          obtain rfl : x10 = .pointer (some ⟨pM, 0, none⟩) := hf.same 10 (by decide)
          obtain rfl : x11 = .int .i64 pl := hf.same 11 (by decide)
          obtain rfl : x12 = .pointer (some ⟨w3.heap.size, 0, none⟩) := hf.same 12 (by decide)
          obtain rfl : x13 = .int .i64 (j : Int) := hf.same 13 (by decide)
          obtain rfl : x14 = .pointer (some ⟨pS, 0, none⟩) := hf.same 14 (by decide)
          obtain rfl : x15 = .tuple #[.int .i64 pg, .agg #[.int .i64 mn, .int .i64 md]] := hf.same 15 (by decide)
          obtain rfl : x16 = .agg #[.int .i64 s, .int .i64 ww, .int .i64 t, .int .i64 en] := hf.same 16 (by decide)
          obtain rfl : x17 = .agg #[.slice A n c, .int .i64 S] := hf.same 17 (by decide)
          obtain rfl : x18 = .tuple #[.int .i64 pg, .agg #[.int .i64 mn, .int .i64 md]] := hf.same 18 (by decide)
          obtain rfl : x19 = .int .i64 pg := hf.same 19 (by decide)
          obtain rfl : x20 = .agg #[.int .i64 mn, .int .i64 md] := hf.same 20 (by decide)
          obtain rfl : x21 = .tuple #[.int .i64 pl, .agg #[.int .i64 un, .int .i64 ud]] := hf.same 21 (by decide)
          obtain rfl : x22 = .agg #[.int .i64 s, .int .i64 ww, .int .i64 t, .int .i64 en] := hf.same 22 (by decide)
          obtain rfl : x23 = .pointer (some ⟨w.heap.size + 1, 0, none⟩) := hf.same 23 (by decide)
          obtain rfl : x24 = .int .i64 lo := hf.same 24 (by decide)
          obtain rfl : x25 = .agg #[.slice A n c, .int .i64 S] := hf.same 25 (by decide)
          obtain rfl : x26 = .tuple #[.int .i64 pl, .agg #[.int .i64 un, .int .i64 ud]] := hf.same 26 (by decide)
          obtain rfl : x27 = .int .i64 pl := hf.same 27 (by decide)
          obtain rfl : x28 = .agg #[.int .i64 un, .int .i64 ud] := hf.same 28 (by decide)
          obtain rfl : x49 = .agg #[.int .i64 nn, .int .i64 de] := hall 0 49 rfl
          obtain rfl : x50 = .pointer (some ⟨w.heap.size + 1, 2, none⟩) := hall 1 50 rfl
          obtain rfl : x51 = .int .i64 st := hall 2 51 rfl
          obtain rfl : x52 = .agg #[.int .i64 st, .int .i64 1] := hall 3 52 rfl
          obtain rfl : x53 = .int .i64 c1' := hall 4 53 rfl
          obtain rfl : x54 = .bool true := hall 5 54 rfl
          obtain rfl : x55 = .bool true := hall 6 55 rfl
          obtain rfl : x56 = .agg #[.int .i64 s, .int .i64 ww, .int .i64 (j : Int), .int .i64 en] := hall 7 56 rfl
          obtain rfl : x57 = .pointer (some ⟨w.heap.size + 1, 0, none⟩) := hall 8 57 rfl
          obtain rfl : x58 = .int .i64 lo := hall 9 58 rfl
          obtain rfl : x59 = .agg #[.slice A n c, .int .i64 S] := hall 10 59 rfl
          obtain rfl : x60 = .int .i64 pl := hall 11 60 rfl
          obtain rfl : x61 = .agg #[.int .i64 gn, .int .i64 gd] := hall 12 61 rfl
          obtain rfl : x62 = .agg #[.int .i64 a2, .int .i64 gd] := hall 13 62 rfl
          obtain rfl : x63 = .pointer (some ⟨w.heap.size, 0, none⟩) := hall 14 63 rfl
          obtain rfl : x64 = .int .i64 s := hall 15 64 rfl
          obtain rfl : x65 = .int .i64 r := hall 16 65 rfl
          obtain rfl : x66 = .agg #[.int .i64 s, .int .i64 r] := hall 17 66 rfl
          obtain rfl : x67 = .int .i64 c2' := hall 18 67 rfl
          obtain rfl : x68 = .bool false := hall 19 68 rfl
          obtain rfl : x69 = .bool false := hall 20 69 rfl
          clear hall hf
          have HP8 := Lib.hid (rtP_below HP7.out hb)
          clear hsz hsz0 hsz1 hsz2 hsz3 hsz4 hsz5 hsz6 hsz7 hsz8 hsz9 hsz10 hsz11 hsz12 hsz13 hsz14 hsz15 hsz16 hsz17 hsz18 hsz19 hsz20 hsz21 hsz22 hsz23 hsz24 hsz25 hsz26 hsz27 hsz28 hsz29 hsz30 hsz31 hsz32 hsz33 hsz34 hsz35 hsz36 hsz37 hsz38 hsz39 hsz40 hsz41 hsz42 hsz43 hsz44 hsz45 hsz46 hsz47 hsz48 hsz49 hsz50 hsz51 hsz52 hsz53 hsz54 hsz55 hsz56 hsz57 hsz58 hsz59 hsz60 hsz61 hsz62 hsz63 hsz64 hsz65 hsz66 hsz67 hsz68 hsz69 hsz70
          clear hb
          go_wp2
          go_roundw
          case rel => exact rtI_step HJ.out hlt HQ.out HEQ.out HP8.out
          case measure => have := HJ.out; simp [intOf]; omega
        · refine wp_region_rkg [49, 50, 51, 52, 53, 54, 55, 56, 57, 58, 59, 60, 61, 62, 63, 64, 65, 66, 67, 68, 69] [rEq (.agg #[.int .i64 nn, .int .i64 de]), rEq (.pointer (some ⟨w.heap.size + 1, 2, none⟩)), rEq (.int .i64 st), rEq (.agg #[.int .i64 st, .int .i64 1]), rEq (.int .i64 c1'), rEq (.bool true), rEq (.bool true), rEq (.agg #[.int .i64 s, .int .i64 ww, .int .i64 (j : Int), .int .i64 en]), rEq (.pointer (some ⟨w.heap.size + 1, 0, none⟩)), rEq (.int .i64 lo), rEq (.agg #[.slice A n c, .int .i64 S]), rEq (.int .i64 pl), rEq (.agg #[.int .i64 gn, .int .i64 gd]), rEq (.agg #[.int .i64 a2, .int .i64 gd]), rEq (.pointer (some ⟨w.heap.size, 0, none⟩)), rEq (.int .i64 s), rEq (.int .i64 r), rEq (.agg #[.int .i64 s, .int .i64 r]), rEq (.int .i64 c2'), rEq (.bool true), rEq (.bool true)] (by kernel_rfl) (by kernel_rfl) (by decide) rfl ⟨?_, ?_, ?_, ?_, ?_, ?_, ?_, ?_, ?_, ?_, ?_, ?_, ?_, ?_, ?_, ?_, ?_, ?_, ?_, ?_, ?_, trivial⟩ ?_
          · intro ac wx hf hb hd -- 0
            refine .inl ⟨wanted_free rfl, ?_⟩
            have f14 : ac.tmps[14]?.getD undef = .pointer (some ⟨pS, 0, none⟩) := by rw [← Array.getD_eq_getD_getElem?]; exact hf.same 14 (by decide)
            obtain ⟨bW, c0, c1, c2, c3, c4, c5, c6, c7, c8, c9, c10, z, y0, y1⟩ := HC7.out wx hb
            exact rstep_eq (by simp [execOp, Act.eval, f14, y0, y1, go_sem]) rfl
          · intro ac wx hf hb hd -- 1
            refine .inl ⟨wanted_free rfl, ?_⟩
            have f5 : ac.tmps[5]?.getD undef = .pointer (some ⟨w.heap.size + 1, 0, none⟩) := by rw [← Array.getD_eq_getD_getElem?]; exact hf.same 5 (by decide)
            exact rstep_eq (by simp [execOp, Act.eval, f5, go_sem]) rfl
          · intro ac wx hf hb hd -- 2
            refine .inl ⟨wanted_free rfl, ?_⟩
            have d1 : ac.tmps[50]?.getD undef = .pointer (some ⟨w.heap.size + 1, 2, none⟩) := by rw [← Array.getD_eq_getD_getElem?]; exact hd 1 (by decide)
            obtain ⟨bW, c0, c1, c2, c3, c4, c5, c6, c7, c8, c9, c10, z, y0, y1⟩ := HC7.out wx hb
            exact rstep_eq (by simp [execOp, Act.eval, d1, c6, go_sem]) rfl
          · intro ac wx hf hb hd -- 3
            refine .inl ⟨wanted_free rfl, ?_⟩
            have d2 : ac.tmps[51]?.getD undef = .int .i64 st := by rw [← Array.getD_eq_getD_getElem?]; exact hd 2 (by decide)
            exact rstep_eq (by simp [execOp, Act.eval, d2, go_sem]) rfl
          · intro ac wx hf hb hd -- 4
            refine .inl ⟨wanted_free rfl, ?_⟩
            have d0 : ac.tmps[49]?.getD undef = .agg #[.int .i64 nn, .int .i64 de] := by rw [← Array.getD_eq_getD_getElem?]; exact hd 0 (by decide)
            have d3 : ac.tmps[52]?.getD undef = .agg #[.int .i64 st, .int .i64 1] := by rw [← Array.getD_eq_getD_getElem?]; exact hd 3 (by decide)
            refine rstep_call (f := 50) (args := #[.agg #[.int .i64 nn, .int .i64 de], .agg #[.int .i64 st, .int .i64 1]]) (by simp [Act.eval, d0, d3, go_sem]) ?_ rfl
            exact HCA.out wx
          · intro ac wx hf hb hd -- 5
            refine .inl ⟨wanted_free rfl, ?_⟩
            have d4 : ac.tmps[53]?.getD undef = .int .i64 c1' := by rw [← Array.getD_eq_getD_getElem?]; exact hd 4 (by decide)
            exact rstep_eq (by simp [execOp, Act.eval, d4, HE.out.2.2.2.2.1, go_sem]) rfl
          · intro ac wx hf hb hd -- 6
            refine .inl ⟨wanted_free rfl, ?_⟩
            have d5 : ac.tmps[54]?.getD undef = .bool true := by rw [← Array.getD_eq_getD_getElem?]; exact hd 5 (by decide)
            exact rstep_eq (by simp [execOp, Act.eval, d5, go_sem]) rfl
          · intro ac wx hf hb hd -- 7
            refine .inl ⟨wanted_by (j := 6) (d := 55) (b := true) rfl rfl (hd 6 (by decide)), ?_⟩
            have f4 : ac.tmps[4]?.getD undef = .pointer (some ⟨w.heap.size, 0, none⟩) := by rw [← Array.getD_eq_getD_getElem?]; exact hf.same 4 (by decide)
            obtain ⟨bW, c0, c1, c2, c3, c4, c5, c6, c7, c8, c9, c10, z, y0, y1⟩ := HC7.out wx hb
            exact rstep_eq (by simp [execOp, Act.eval, f4, c0, c1, c2, c3, go_sem]) rfl
          · intro ac wx hf hb hd -- 8
            refine .inl ⟨wanted_by (j := 6) (d := 55) (b := true) rfl rfl (hd 6 (by decide)), ?_⟩
            have f5 : ac.tmps[5]?.getD undef = .pointer (some ⟨w.heap.size + 1, 0, none⟩) := by rw [← Array.getD_eq_getD_getElem?]; exact hf.same 5 (by decide)
            exact rstep_eq (by simp [execOp, Act.eval, f5, go_sem]) rfl
          · intro ac wx hf hb hd -- 9
            refine .inl ⟨wanted_by (j := 6) (d := 55) (b := true) rfl rfl (hd 6 (by decide)), ?_⟩
            have d8 : ac.tmps[57]?.getD undef = .pointer (some ⟨w.heap.size + 1, 0, none⟩) := by rw [← Array.getD_eq_getD_getElem?]; exact hd 8 (by decide)
            obtain ⟨bW, c0, c1, c2, c3, c4, c5, c6, c7, c8, c9, c10, z, y0, y1⟩ := HC7.out wx hb
            exact rstep_eq (by simp [execOp, Act.eval, d8, c4, go_sem]) rfl
          · intro ac wx hf hb hd -- 10
            refine .inl ⟨wanted_by (j := 6) (d := 55) (b := true) rfl rfl (hd 6 (by decide)), ?_⟩
            have f6 : ac.tmps[6]?.getD undef = .pointer (some ⟨w.heap.size + 2, 0, none⟩) := by rw [← Array.getD_eq_getD_getElem?]; exact hf.same 6 (by decide)
            obtain ⟨bW, c0, c1, c2, c3, c4, c5, c6, c7, c8, c9, c10, z, y0, y1⟩ := HC7.out wx hb
            exact rstep_eq (by simp [execOp, Act.eval, f6, c7, c8, go_sem]) rfl
          · intro ac wx hf hb hd -- 11
            refine .inl ⟨wanted_by (j := 6) (d := 55) (b := true) rfl rfl (hd 6 (by decide)), ?_⟩
            have f11 : ac.tmps[11]?.getD undef = .int .i64 pl := by rw [← Array.getD_eq_getD_getElem?]; exact hf.same 11 (by decide)
            exact rstep_eq (by simp [execOp, Act.eval, f11, go_sem]) rfl
          · intro ac wx hf hb hd -- 12
            refine .inl ⟨wanted_by (j := 6) (d := 55) (b := true) rfl rfl (hd 6 (by decide)), ?_⟩
            have d7 : ac.tmps[56]?.getD undef = .agg #[.int .i64 s, .int .i64 ww, .int .i64 (j : Int), .int .i64 en] := by rw [← Array.getD_eq_getD_getElem?]; exact hd 7 (by decide)
            have d9 : ac.tmps[58]?.getD undef = .int .i64 lo := by rw [← Array.getD_eq_getD_getElem?]; exact hd 9 (by decide)
            have d10 : ac.tmps[59]?.getD undef = .agg #[.slice A n c, .int .i64 S] := by rw [← Array.getD_eq_getD_getElem?]; exact hd 10 (by decide)
            have d11 : ac.tmps[60]?.getD undef = .int .i64 pl := by rw [← Array.getD_eq_getD_getElem?]; exact hd 11 (by decide)
            refine rstep_call (f := 43) (args := #[.agg #[.int .i64 s, .int .i64 ww, .int .i64 (j : Int), .int .i64 en], .int .i64 lo, .agg #[.slice A n c, .int .i64 S], .int .i64 pl]) (by simp [Act.eval, d7, d9, d10, d11, go_sem]) ?_ rfl
            exact HSG.out wx (HC7.out wx hb).1
          · intro ac wx hf hb hd -- 13
            refine .inl ⟨wanted_by (j := 6) (d := 55) (b := true) rfl rfl (hd 6 (by decide)), ?_⟩
            have d12 : ac.tmps[61]?.getD undef = .agg #[.int .i64 gn, .int .i64 gd] := by rw [← Array.getD_eq_getD_getElem?]; exact hd 12 (by decide)
            refine rstep_call (f := 118) (args := #[.agg #[.int .i64 gn, .int .i64 gd]]) (by simp [Act.eval, d12, go_sem]) ?_ rfl
            exact HSZ.out wx
          · intro ac wx hf hb hd -- 14
            refine .inl ⟨wanted_by (j := 6) (d := 55) (b := true) rfl rfl (hd 6 (by decide)), ?_⟩
            have f4 : ac.tmps[4]?.getD undef = .pointer (some ⟨w.heap.size, 0, none⟩) := by rw [← Array.getD_eq_getD_getElem?]; exact hf.same 4 (by decide)
            exact rstep_eq (by simp [execOp, Act.eval, f4, go_sem]) rfl
          · intro ac wx hf hb hd -- 15
            refine .inl ⟨wanted_by (j := 6) (d := 55) (b := true) rfl rfl (hd 6 (by decide)), ?_⟩
            have d14 : ac.tmps[63]?.getD undef = .pointer (some ⟨w.heap.size, 0, none⟩) := by rw [← Array.getD_eq_getD_getElem?]; exact hd 14 (by decide)
            obtain ⟨bW, c0, c1, c2, c3, c4, c5, c6, c7, c8, c9, c10, z, y0, y1⟩ := HC7.out wx hb
            exact rstep_eq (by simp [execOp, Act.eval, d14, c0, go_sem]) rfl
          · intro ac wx hf hb hd -- 16
            refine .inl ⟨wanted_by (j := 6) (d := 55) (b := true) rfl rfl (hd 6 (by decide)), ?_⟩
            have f3 : ac.tmps[3]?.getD undef = .int .i64 r := by rw [← Array.getD_eq_getD_getElem?]; exact hf.same 3 (by decide)
            exact rstep_eq (by simp [execOp, Act.eval, f3, go_sem]) rfl
          · intro ac wx hf hb hd -- 17
            refine .inl ⟨wanted_by (j := 6) (d := 55) (b := true) rfl rfl (hd 6 (by decide)), ?_⟩
            have d15 : ac.tmps[64]?.getD undef = .int .i64 s := by rw [← Array.getD_eq_getD_getElem?]; exact hd 15 (by decide)
            have d16 : ac.tmps[65]?.getD undef = .int .i64 r := by rw [← Array.getD_eq_getD_getElem?]; exact hd 16 (by decide)
            exact rstep_eq (by simp [execOp, Act.eval, d15, d16, go_sem]) rfl
          · intro ac wx hf hb hd -- 18
            refine .inl ⟨wanted_by (j := 6) (d := 55) (b := true) rfl rfl (hd 6 (by decide)), ?_⟩
            have d13 : ac.tmps[62]?.getD undef = .agg #[.int .i64 a2, .int .i64 gd] := by rw [← Array.getD_eq_getD_getElem?]; exact hd 13 (by decide)
            have d17 : ac.tmps[66]?.getD undef = .agg #[.int .i64 s, .int .i64 r] := by rw [← Array.getD_eq_getD_getElem?]; exact hd 17 (by decide)
            refine rstep_call (f := 50) (args := #[.agg #[.int .i64 a2, .int .i64 gd], .agg #[.int .i64 s, .int .i64 r]]) (by simp [Act.eval, d13, d17, go_sem]) ?_ rfl
            exact HCB.out wx
          · intro ac wx hf hb hd -- 19
            refine .inl ⟨wanted_by (j := 6) (d := 55) (b := true) rfl rfl (hd 6 (by decide)), ?_⟩
            have d18 : ac.tmps[67]?.getD undef = .int .i64 c2' := by rw [← Array.getD_eq_getD_getElem?]; exact hd 18 (by decide)
            exact rstep_eq (by simp [execOp, Act.eval, d18, HE.out.2.2.2.2.2, go_sem]) rfl
          · intro ac wx hf hb hd -- 20
            refine .inl ⟨wanted_free rfl, ?_⟩
            have d6 : ac.tmps[55]?.getD undef = .bool true := by rw [← Array.getD_eq_getD_getElem?]; exact hd 6 (by decide)
            have d19 : ac.tmps[68]?.getD undef = .bool true := by rw [← Array.getD_eq_getD_getElem?]; exact hd 19 (by decide)
            exact rstep_eq (by simp [execOp, Act.eval, d6, d19, go_sem]) rfl
          rintro ⟨⟨ll⟩, df⟩ wx hf hb hall
          have hdf : df = [] := hf.defers
          subst hdf
          have hsz : ll.length = 71 := hf.size
          obtain ⟨x0, ll0, rfl, hsz0⟩ := cons_of hsz
          obtain ⟨x1, ll1, rfl, hsz1⟩ := cons_of hsz0
          obtain ⟨x2, ll2, rfl, hsz2⟩ := cons_of hsz1
          obtain ⟨x3, ll3, rfl, hsz3⟩ := cons_of hsz2
          obtain ⟨x4, ll4, rfl, hsz4⟩ := cons_of hsz3
          obtain ⟨x5, ll5, rfl, hsz5⟩ := cons_of hsz4
          obtain ⟨x6, ll6, rfl, hsz6⟩ := cons_of hsz5
          obtain ⟨x7, ll7, rfl, hsz7⟩ := cons_of hsz6
          obtain ⟨x8, ll8, rfl, hsz8⟩ := cons_of hsz7
          obtain ⟨x9, ll9, rfl, hsz9⟩ := cons_of hsz8
          obtain ⟨x10, ll10, rfl, hsz10⟩ := cons_of hsz9
          obtain ⟨x11, ll11, rfl, hsz11⟩ := cons_of hsz10
          obtain ⟨x12, ll12, rfl, hsz12⟩ := cons_of hsz11
          obtain ⟨x13, ll13, rfl, hsz13⟩ := cons_of hsz12
          obtain ⟨x14, ll14, rfl, hsz14⟩ := cons_of hsz13
          obtain ⟨x15, ll15, rfl, hsz15⟩ := cons_of hsz14
          obtain ⟨x16, ll16, rfl, hsz16⟩ := cons_of hsz15
          obtain ⟨x17, ll17, rfl, hsz17⟩ := cons_of hsz16
          obtain ⟨x18, ll18, rfl, hsz18⟩ := cons_of hsz17
          obtain ⟨x19, ll19, rfl, hsz19⟩ := cons_of hsz18
          obtain ⟨x20, ll20, rfl, hsz20⟩ := cons_of hsz19
          obtain ⟨x21, ll21, rfl, hsz21⟩ := cons_of hsz20
          obtain ⟨x22, ll22, rfl, hsz22⟩ := cons_of hsz21
          obtain ⟨x23, ll23, rfl, hsz23⟩ := cons_of hsz22
          obtain ⟨x24, ll24, rfl, hsz24⟩ := cons_of hsz23
          obtain ⟨x25, ll25, rfl, hsz25⟩ := cons_of hsz24
          obtain ⟨x26, ll26, rfl, hsz26⟩ := cons_of hsz25
          obtain ⟨x27, ll27, rfl, hsz27⟩ := cons_of hsz26
          obtain ⟨x28, ll28, rfl, hsz28⟩ := cons_of hsz27
          obtain ⟨x29, ll29, rfl, hsz29⟩ := cons_of hsz28
          obtain ⟨x30, ll30, rfl, hsz30⟩ := cons_of hsz29
          obtain ⟨x31, ll31, rfl, hsz31⟩ := cons_of hsz30
          obtain ⟨x32, ll32, rfl, hsz32⟩ := cons_of hsz31
          obtain ⟨x33, ll33, rfl, hsz33⟩ := cons_of hsz32
          obtain ⟨x34, ll34, rfl, hsz34⟩ := cons_of hsz33
          obtain ⟨x35, ll35, rfl, hsz35⟩ := cons_of hsz34
          obtain ⟨x36, ll36, rfl, hsz36⟩ := cons_of hsz35
          obtain ⟨x37, ll37, rfl, hsz37⟩ := cons_of hsz36
          obtain ⟨x38, ll38, rfl, hsz38⟩ := cons_of hsz37
          obtain ⟨x39, ll39, rfl, hsz39⟩ := cons_of hsz38
          obtain ⟨x40, ll40, rfl, hsz40⟩ := cons_of hsz39
          obtain ⟨x41, ll41, rfl, hsz41⟩ := cons_of hsz40
          obtain ⟨x42, ll42, rfl, hsz42⟩ := cons_of hsz41
          obtain ⟨x43, ll43, rfl, hsz43⟩ := cons_of hsz42
          obtain ⟨x44, ll44, rfl, hsz44⟩ := cons_of hsz43
          obtain ⟨x45, ll45, rfl, hsz45⟩ := cons_of hsz44
          obtain ⟨x46, ll46, rfl, hsz46⟩ := cons_of hsz45
          obtain ⟨x47, ll47, rfl, hsz47⟩ := cons_of hsz46
          obtain ⟨x48, ll48, rfl, hsz48⟩ := cons_of hsz47
          obtain ⟨x49, ll49, rfl, hsz49⟩ := cons_of hsz48
          obtain ⟨x50, ll50, rfl, hsz50⟩ := cons_of hsz49
          obtain ⟨x51, ll51, rfl, hsz51⟩ := cons_of hsz50
          obtain ⟨x52, ll52, rfl, hsz52⟩ := cons_of hsz51
          obtain ⟨x53, ll53, rfl, hsz53⟩ := cons_of hsz52
          obtain ⟨x54, ll54, rfl, hsz54⟩ := cons_of hsz53
          obtain ⟨x55, ll55, rfl, hsz55⟩ := cons_of hsz54
          obtain ⟨x56, ll56, rfl, hsz56⟩ := cons_of hsz55
          obtain ⟨x57, ll57, rfl, hsz57⟩ := cons_of hsz56
          obtain ⟨x58, ll58, rfl, hsz58⟩ := cons_of hsz57
          obtain ⟨x59, ll59, rfl, hsz59⟩ := cons_of hsz58
          obtain ⟨x60, ll60, rfl, hsz60⟩ := cons_of hsz59
          obtain ⟨x61, ll61, rfl, hsz61⟩ := cons_of hsz60
          obtain ⟨x62, ll62, rfl, hsz62⟩ := cons_of hsz61
          obtain ⟨x63, ll63, rfl, hsz63⟩ := cons_of hsz62
          obtain ⟨x64, ll64, rfl, hsz64⟩ := cons_of hsz63
          obtain ⟨x65, ll65, rfl, hsz65⟩ := cons_of hsz64
          obtain ⟨x66, ll66, rfl, hsz66⟩ := cons_of hsz65
          obtain ⟨x67, ll67, rfl, hsz67⟩ := cons_of hsz66
          obtain ⟨x68, ll68, rfl, hsz68⟩ := cons_of hsz67
          obtain ⟨x69, ll69, rfl, hsz69⟩ := cons_of hsz68
          obtain ⟨x70, ll70, rfl, hsz70⟩ := cons_of hsz69
          obtain rfl := List.eq_nil_of_length_eq_zero hsz70
          obtain rfl : x0 = .agg #[.int .i64 s, .int .i64 ww, .int .i64 t, .int .i64 en] := hf.same 0 (by decide)
          obtain rfl : x1 = .agg #[.int .i64 lo, .int .i64 hi, .int .i64 st] := hf.same 1 (by decide)
          obtain rfl : x2 = .agg #[.slice A n c, .int .i64 S] := hf.same 2 (by decide)
          obtain rfl : x3 = .int .i64 r := hf.same 3 (by decide)
          obtain rfl : x4 = .pointer (some ⟨w.heap.size, 0, none⟩) := hf.same 4 (by decide)
          obtain rfl : x5 = .pointer (some ⟨w.heap.size + 1, 0, none⟩) := hf.same 5 (by decide)
          obtain rfl : x6 = .pointer (some ⟨w.heap.size + 1 + 1, 0, none⟩) := hf.same 6 (by decide)
          obtain rfl : x7 = undef := hf.same 7 (by decide)
          obtain rfl : x9 = .int .i64 pg := hf.same 9 (by decide)
          obtain rfl : x10 = .pointer (some ⟨pM, 0, none⟩) := hf.same 10 (by decide)
          obtain rfl : x11 = .int .i64 pl := hf.same 11 (by decide)
          obtain rfl : x12 = .pointer (some ⟨w3.heap.size, 0, none⟩) := hf.same 12 (by decide)
          obtain rfl : x13 = .int .i64 (j : Int) := hf.same 13 (by decide)
          obtain rfl : x14 = .pointer (some ⟨pS, 0, none⟩) := hf.same 14 (by decide)
          obtain rfl : x15 = .tuple #[.int .i64 pg, .agg #[.int .i64 mn, .int .i64 md]] := hf.same 15 (by decide)
          obtain rfl : x16 = .agg #[.int .i64 s, .int .i64 ww, .int .i64 t, .int .i64 en] := hf.same 16 (by decide)
          obtain rfl : x17 = .agg #[.slice A n c, .int .i64 S] := hf.same 17 (by decide)
          obtain rfl : x18 = .tuple #[.int .i64 pg, .agg #[.int .i64 mn, .int .i64 md]] := hf.same 18 (by decide)
          obtain rfl : x19 = .int .i64 pg := hf.same 19 (by decide)
          obtain rfl : x20 = .agg #[.int .i64 mn, .int .i64 md] := hf.same 20 (by decide)
          obtain rfl : x21 = .tuple #[.int .i64 pl, .agg #[.int .i64 un, .int .i64 ud]] := hf.same 21 (by decide)
          obtain rfl : x22 = .agg #[.int .i64 s, .int .i64 ww, .int .i64 t, .int .i64 en] := hf.same 22 (by decide)
          obtain rfl : x23 = .pointer (some ⟨w.heap.size + 1, 0, none⟩) := hf.same 23 (by decide)
          obtain rfl : x24 = .int .i64 lo := hf.same 24 (by decide)
          obtain rfl : x25 = .agg #[.slice A n c, .int .i64 S] := hf.same 25 (by decide)
          obtain rfl : x26 = .tuple #[.int .i64 pl, .agg #[.int .i64 un, .int .i64 ud]] := hf.same 26 (by decide)
          obtain rfl : x27 = .int .i64 pl := hf.same 27 (by decide)
          obtain rfl : x28 = .agg #[.int .i64 un, .int .i64 ud] := hf.same 28 (by decide)
          obtain rfl : x49 = .agg #[.int .i64 nn, .int .i64 de] := hall 0 49 rfl
          obtain rfl : x50 = .pointer (some ⟨w.heap.size + 1, 2, none⟩) := hall 1 50 rfl
          obtain rfl : x51 = .int .i64 st := hall 2 51 rfl
          obtain rfl : x52 = .agg #[.int .i64 st, .int .i64 1] := hall 3 52 rfl
          obtain rfl : x53 = .int .i64 c1' := hall 4 53 rfl
          obtain rfl : x54 = .bool true := hall 5 54 rfl
          obtain rfl : x55 = .bool true := hall 6 55 rfl
          obtain rfl : x56 = .agg #[.int .i64 s, .int .i64 ww, .int .i64 (j : Int), .int .i64 en] := hall 7 56 rfl
          obtain rfl : x57 = .pointer (some ⟨w.heap.size + 1, 0, none⟩) := hall 8 57 rfl
          obtain rfl : x58 = .int .i64 lo := hall 9 58 rfl
          obtain rfl : x59 = .agg #[.slice A n c, .int .i64 S] := hall 10 59 rfl
          obtain rfl : x60 = .int .i64 pl := hall 11 60 rfl
          obtain rfl : x61 = .agg #[.int .i64 gn, .int .i64 gd] := hall 12 61 rfl
          obtain rfl : x62 = .agg #[.int .i64 a2, .int .i64 gd] := hall 13 62 rfl
          obtain rfl : x63 = .pointer (some ⟨w.heap.size, 0, none⟩) := hall 14 63 rfl
          obtain rfl : x64 = .int .i64 s := hall 15 64 rfl
          obtain rfl : x65 = .int .i64 r := hall 16 65 rfl
          obtain rfl : x66 = .agg #[.int .i64 s, .int .i64 r] := hall 17 66 rfl
          obtain rfl : x67 = .int .i64 c2' := hall 18 67 rfl
          obtain rfl : x68 = .bool true := hall 19 68 rfl
          obtain rfl : x69 = .bool true := hall 20 69 rfl
          clear hall hf
          have HP8 := Lib.hid (rtP_below HP7.out hb)
          clear hsz hsz0 hsz1 hsz2 hsz3 hsz4 hsz5 hsz6 hsz7 hsz8 hsz9 hsz10 hsz11 hsz12 hsz13 hsz14 hsz15 hsz16 hsz17 hsz18 hsz19 hsz20 hsz21 hsz22 hsz23 hsz24 hsz25 hsz26 hsz27 hsz28 hsz29 hsz30 hsz31 hsz32 hsz33 hsz34 hsz35 hsz36 hsz37 hsz38 hsz39 hsz40 hsz41 hsz42 hsz43 hsz44 hsz45 hsz46 hsz47 hsz48 hsz49 hsz50 hsz51 hsz52 hsz53 hsz54 hsz55 hsz56 hsz57 hsz58 hsz59 hsz60 hsz61 hsz62 hsz63 hsz64 hsz65 hsz66 hsz67 hsz68 hsz69 hsz70
          clear hb
          have hkk : k = k0 := by
            rcases Nat.lt_trichotomy k k0 with h | h | h
            · have := HK.out.2.1 k h
              rw [HEQ.out] at this
              cases this
            · exact h
            · have := HQ.out k0 h
              rw [HK.out.2.2 (by omega)] at this
              cases this
          have hkd : (k0 == 300) = false := by simp; omega
          have hret : Hid (((j : Nat) : Int) = bif k0 == 300 then 0 else 1 + (k0 : Int)) := Lib.hid (by rw [hkd]; have := HJ.out; simp; omega)
          go_wp2
          go_ret
          exact ⟨ret_int hret.out, HP8.out.1⟩
    · obtain rfl : k = 300 := by omega
      have hkk : k0 = 300 := by
        rcases Nat.lt_or_ge k0 300 with h | h
        · have := HQ.out k0 h
          rw [HK.out.2.2 h] at this
          cases this
        · have := HK.out.1; omega
      have hj3 : ¬ (j : Int) ≤ 300 := by omega
      clear hj
      have hret : Hid ((0 : Int) = bif k0 == 300 then 0 else 1 + (k0 : Int)) := Lib.hid (by rw [hkk]; rfl)
      go_wp2
      go_ret
      exact ⟨by first | rfl | exact ret_int hret.out, HP.out.1⟩
end Go.Proofs.Ytablphoicidlkaa
namespace Go.Proofs.Ytablphoicidlkaa
open Go.RowKit

theorem rleastThick_any {b : Bm} {x : Wd} {A : Option Addr} {n c k : Nat} {S r : Int} {l : List Pt} (hk : Frst (thkQ b x l S r) k) (hb : BmOk b) (hl : WtOk b.s l S) (hx : WdOk x) (r0 : 1 ≤ r) (r1 : r ≤ 1000) (w : World) (h : PtRow w A n l) :
    Calls Try.prog 59 #[bmV b, wdV x, buV A n c S, .int .i64 r] w fun e w' => e = .returned (.int .i64 (bif k == 300 then 0 else 1 + (k : Int))) ∧ Below w.heap.size w w' := by
  have hhi : x.lo ≤ 30000 := by have := hx.l1; have := hx.h1; omega
  have s0 := hb.s0; have s1 := hb.s1; have w0 := hb.w0; have w1 := hb.w1
  have hD : 0 < 2 * b.s := by omega
  have GM := fun wx (hw : Below w.heap.size w wx) => rGreatestMoment_any (c := c) hb hl wx (h.below hw)
  have GS := fun wx (hw : Below w.heap.size w wx) => rGreatestSag_any (c := c) hb hl hx.l0 hhi wx (h.below hw)
  have g5 := gS_bd5 hb hl
  have gm := (gM_bd hb hl).2
  have k1 := lowN_bd (n := (gM b l S).2) hD
  have k2 := lowD_pos (n := (gM b l S).2) hD
  have k3 := lowD_le (n := (gM b l S).2) hD
  have AB := fun wx => rabs_any (n := lowN (gM b l S).2 (2 * b.s)) (by omega) (by omega) wx
  obtain ⟨pa, pe⟩ := grP_at (g := fun k : Nat => sag b l S k) b.s.toNat
  have RF : ∀ k j : Nat, k < 300 → k + 1 = j → ∃ (nn de gn gd a2 c1 c2 u1 u2 u3 u4 : Int) (sb tb : Bool), thkQ b x l S r k = (sb && tb) ∧ wrap64 (6 * absI (lowN (gM b l S).2 (2 * b.s))) = u1 ∧ wrap64 (lowD (gM b l S).2 (2 * b.s) * b.w) = u2 ∧ wrap64 (u2 * j) = u3 ∧ wrap64 (u3 * j) = u4 ∧ decide (c1 ≤ 0) = sb ∧ decide (c2 ≤ 0) = tb ∧
      (∀ wx, Calls Try.prog 89 #[.int .i64 u1, .int .i64 u4] wx fun e w' => e = .returned (.agg #[.int .i64 nn, .int .i64 de]) ∧ Below wx.heap.size wx w') ∧
      (∀ wx, Calls Try.prog 50 #[.agg #[.int .i64 nn, .int .i64 de], .agg #[.int .i64 x.st, .int .i64 1]] wx fun e w' => e = .returned (.int .i64 c1) ∧ Below wx.heap.size wx w') ∧
      (∀ wx, Below w.heap.size w wx → Calls Try.prog 43 #[.agg #[.int .i64 b.s, .int .i64 b.w, .int .i64 (j : Int), .int .i64 b.e], .int .i64 x.lo, .agg #[.slice A n c, .int .i64 S], .int .i64 ((gS b l S).1 : Nat)] wx fun e w' => e = .returned (.agg #[.int .i64 gn, .int .i64 gd]) ∧ Below wx.heap.size wx w') ∧
      (∀ wx, Calls Try.prog 118 #[.agg #[.int .i64 gn, .int .i64 gd]] wx fun e w' => e = .returned (.agg #[.int .i64 a2, .int .i64 gd]) ∧ Below wx.heap.size wx w') ∧
      (∀ wx, Calls Try.prog 50 #[.agg #[.int .i64 a2, .int .i64 gd], .agg #[.int .i64 b.s, .int .i64 r]] wx fun e w' => e = .returned (.int .i64 c2) ∧ Below wx.heap.size wx w') := fun k j hk hj => by
    have hbt := bmok_bT (m := (j : Int)) hb (by omega) (by omega)
    obtain ⟨d3, d4⟩ := strD_bd hbt
    obtain ⟨d1, d2⟩ := sgD_bd (E := x.lo) hbt hx.l0 hhi
    have t0 := hx.s0; have t1 := hx.s1
    have m1 := lowD_pos (n := strN (bT b j) l S) d3
    have m2 := lowD_le (n := strN (bT b j) l S) d3
    have m3 := lowN_bd (n := strN (bT b j) l S) d3
    have m4 := lowD_pos (n := (gS b l S).2) d1
    have m5 := lowD_le (n := (gS b l S).2) d1
    have m6 := lowN_bd (n := (gS b l S).2) d1
    have m7 : (strN (bT b j) l S).natAbs ≤ 5000000000000000000 := by unfold strN absI; rw [gM_bT]; omega
    have sc := stress_scale (g := (gM b l S).2) hbt
    have e1 : strN (bT b j) l S = 6 * absI (gM b l S).2 := rfl
    have F1 : Ev (lowD (gM b l S).2 (2 * b.s)) (lowD (gM b l S).2 (2 * b.s)) 4000 := .of (by omega)
    have F2 : Ev b.w b.w 1000 := .of (by omega)
    have F3 : Ev (j : Int) (j : Int) 300 := .of (by omega)
    have v1 : (lowD (gM b l S).2 (2 * b.s) * b.w).natAbs ≤ 4000000 := ev_bd (Ev.mul F1 F2) (by decide +kernel)
    have v2 : (lowD (gM b l S).2 (2 * b.s) * b.w * j).natAbs ≤ 1200000000 := ev_bd (Ev.mul (Ev.mul F1 F2) F3) (by decide +kernel)
    have v3 : (lowD (gM b l S).2 (2 * b.s) * b.w * j * j).natAbs ≤ 360000000000 := ev_bd (Ev.mul (Ev.mul (Ev.mul F1 F2) F3) F3) (by decide +kernel)
    have v4 : 0 < lowD (gM b l S).2 (2 * b.s) * b.w * j * j := Int.mul_pos (Int.mul_pos (Int.mul_pos k2 (by omega)) (by omega)) (by omega)
    have LO := fun wx => lowest_any (n := 6 * absI (lowN (gM b l S).2 (2 * b.s))) (d := lowD (gM b l S).2 (2 * b.s) * b.w * j * j) (by unfold absI; omega) v4 (by omega) wx
    have sc2 : frV (6 * absI (lowN (gM b l S).2 (2 * b.s))) (lowD (gM b l S).2 (2 * b.s) * b.w * j * j) = frV (strN (bT b j) l S) (strD (bT b j)) := by rw [e1]; exact sc.symm
    rw [sc2] at LO
    have SG := fun wx (hw : Below w.heap.size w wx) => rSag_any (b := bT b j) (c := c) (E := x.lo) (x := ((gS b l S).1 : Nat)) hbt hl hx.l0 hhi (by omega) (by show (((gS b l S).1 : Nat) : Int) ≤ b.s; unfold gS; omega) wx (h.below hw)
    have e2 : sag (bT b j) l S ((gS b l S).1 : Nat) = (gS b l S).2 := pe.symm
    rw [e2] at SG
    refine ⟨_, _, _, _, _, _, _, _, _, _, _, _, _, ?_, rfl, rfl, rfl, rfl, rfl, rfl, fun wx => ?_, fun wx => cmp_any (an := lowN (strN (bT b j) l S) (strD (bT b j))) (ad := lowD (strN (bT b j) l S) (strD (bT b j))) (bn := x.st) (bd := 1) m1 (by omega) (by omega) (by omega) (by omega) (by omega) wx, SG, fun wx => size_any (nn := lowN (gS b l S).2 (sgD (bT b j) x.lo)) (de := lowD (gS b l S).2 (sgD (bT b j) x.lo)) (by omega) (by omega) wx, fun wx => cmp_any (an := absI (lowN (gS b l S).2 (sgD (bT b j) x.lo))) (ad := lowD (gS b l S).2 (sgD (bT b j) x.lo)) (bn := b.s) (bd := r) m4 (by omega) (by unfold absI; omega) (by omega) (by omega) (by omega) wx⟩
    · have e3 : thkQ b x l S r k = hldB (bT b j) x l S r := by unfold thkQ; rw [show 1 + (k : Int) = (j : Int) by omega]
      rw [e3]
      unfold hldB strongB stiffB
      congr 1
      · rw [Bool.eq_iff_iff, decide_eq_true_iff, decide_eq_true_iff, sign_le, ← low_le d3]
        omega
      · show decide (absI (gS b l S).2 * r ≤ b.s * sgD (bT b j) x.lo) = _
        rw [Bool.eq_iff_iff, decide_eq_true_iff, decide_eq_true_iff, sign_le, ← low_le2 d1]
        omega
    · have x1 : wrap64 (6 * absI (lowN (gM b l S).2 (2 * b.s))) = 6 * absI (lowN (gM b l S).2 (2 * b.s)) := w64 (by unfold absI; omega)
      have x2 : wrap64 (lowD (gM b l S).2 (2 * b.s) * b.w) = lowD (gM b l S).2 (2 * b.s) * b.w := w64 (by omega)
      have x3 : wrap64 (lowD (gM b l S).2 (2 * b.s) * b.w * j) = lowD (gM b l S).2 (2 * b.s) * b.w * j := w64 (by omega)
      have x4 : wrap64 (lowD (gM b l S).2 (2 * b.s) * b.w * j * j) = lowD (gM b l S).2 (2 * b.s) * b.w * j * j := w64 (by omega)
      rw [x1, x2, x3, x4]
      exact LO wx
  obtain ⟨s, ww, t, en⟩ := b
  obtain ⟨lo, hi, st⟩ := x
  exact rthick_walk w GM GS AB RF hk
end Go.Proofs.Ytablphoicidlkaa
namespace Go.Proofs.Ytablphoicidlkaa
open Go.RowKit

def TkP (w : World) (s ww en lo hi st S ra : Int) (A : Option Addr) (n c : Nat) (tt : Int) (wx : World) : Prop := Below w.heap.size w wx ∧ wx.cell? ⟨w.heap.size, 0, none⟩ = some (.int .i64 s) ∧ wx.cell? ⟨w.heap.size, 1, none⟩ = some (.int .i64 ww) ∧ wx.cell? ⟨w.heap.size, 2, none⟩ = some (.int .i64 tt) ∧ wx.cell? ⟨w.heap.size, 3, none⟩ = some (.int .i64 en) ∧ wx.cell? ⟨w.heap.size + 1, 0, none⟩ = some (.int .i64 lo) ∧ wx.cell? ⟨w.heap.size + 1, 1, none⟩ = some (.int .i64 hi) ∧ wx.cell? ⟨w.heap.size + 1, 2, none⟩ = some (.int .i64 st) ∧ wx.cell? ⟨w.heap.size + 1, 3, none⟩ = some (.slice A n c) ∧ wx.cell? ⟨w.heap.size + 1, 4, none⟩ = some (.int .i64 S) ∧ wx.cell? ⟨w.heap.size + 1, 5, none⟩ = some (.int .i64 ra) ∧ wx.frozen? ⟨w.heap.size, 2, none⟩ = false
theorem tkP_below {w : World} {s ww en lo hi st S ra : Int} {A : Option Addr} {n c : Nat} {tt : Int} {wx w' : World} (h : TkP w s ww en lo hi st S ra A n c tt wx) (hb : Below wx.heap.size wx w') : TkP w s ww en lo hi st S ra A n c tt w' := by
  obtain ⟨hW, c0, c1, c2, c3, c4, c5, c6, c7, c8, c9, z⟩ := h
  obtain ⟨k, kf⟩ := bcell hb
  exact ⟨hW.trans (hb.mono hW.size), (k _ _ (World.block_lt_of_cell? wx _ c0)).trans c0, (k _ _ (World.block_lt_of_cell? wx _ c1)).trans c1, (k _ _ (World.block_lt_of_cell? wx _ c2)).trans c2, (k _ _ (World.block_lt_of_cell? wx _ c3)).trans c3, (k _ _ (World.block_lt_of_cell? wx _ c4)).trans c4, (k _ _ (World.block_lt_of_cell? wx _ c5)).trans c5, (k _ _ (World.block_lt_of_cell? wx _ c6)).trans c6, (k _ _ (World.block_lt_of_cell? wx _ c7)).trans c7, (k _ _ (World.block_lt_of_cell? wx _ c8)).trans c8, (k _ _ (World.block_lt_of_cell? wx _ c9)).trans c9, (kf _ _ (World.block_lt_of_cell? wx _ c0)).trans z⟩
theorem tkP_set {w : World} {s ww en lo hi st S ra : Int} {A : Option Addr} {n c : Nat} {tt m : Int} {wx : World} (h : TkP w s ww en lo hi st S ra A n c tt wx) : TkP w s ww en lo hi st S ra A n c m (wx.setCell ⟨w.heap.size, 2, none⟩ (.int .i64 m)) := by
  obtain ⟨hW, c0, c1, c2, c3, c4, c5, c6, c7, c8, c9, z⟩ := h
  exact ⟨hW.setCell (Nat.le_refl _) _, (World.cell?_setCell_other _ _ _ _ (fun h => by injection h with h1 h2 _; first | exact absurd h2 (by decide) | (simp at h1; done))).trans c0, (World.cell?_setCell_other _ _ _ _ (fun h => by injection h with h1 h2 _; first | exact absurd h2 (by decide) | (simp at h1; done))).trans c1, World.cell?_setCell_same _ _ _ c2, (World.cell?_setCell_other _ _ _ _ (fun h => by injection h with h1 h2 _; first | exact absurd h2 (by decide) | (simp at h1; done))).trans c3, (World.cell?_setCell_other _ _ _ _ (fun h => by injection h with h1 h2 _; first | exact absurd h2 (by decide) | (simp at h1; done))).trans c4, (World.cell?_setCell_other _ _ _ _ (fun h => by injection h with h1 h2 _; first | exact absurd h2 (by decide) | (simp at h1; done))).trans c5, (World.cell?_setCell_other _ _ _ _ (fun h => by injection h with h1 h2 _; first | exact absurd h2 (by decide) | (simp at h1; done))).trans c6, (World.cell?_setCell_other _ _ _ _ (fun h => by injection h with h1 h2 _; first | exact absurd h2 (by decide) | (simp at h1; done))).trans c7, (World.cell?_setCell_other _ _ _ _ (fun h => by injection h with h1 h2 _; first | exact absurd h2 (by decide) | (simp at h1; done))).trans c8, (World.cell?_setCell_other _ _ _ _ (fun h => by injection h with h1 h2 _; first | exact absurd h2 (by decide) | (simp at h1; done))).trans c9, by rw [World.frozen?_setCell]; exact z⟩
set_option maxHeartbeats 8000000 in
set_option maxRecDepth 20000 in
theorem thick_many {s ww t en lo hi st ra : Int} {A : Option Addr} {n c : Nat} {S : Int} (hn : 12 < n) (w : World) :
    Calls Try.prog 11 #[.agg #[.int .i64 s, .int .i64 ww, .int .i64 t, .int .i64 en], .agg #[.int .i64 lo, .int .i64 hi, .int .i64 st, .slice A n c, .int .i64 S, .int .i64 ra]] w fun e w' => e = .returned (.bool true) ∧ Below w.heap.size w w' := by
  have AW := fun wx => Lib.hid (awake_any wx)
  have FE := Lib.hid (fun wx => few_any (A := A) (n := n) (c := c) (S := S) wx)
  have hd : decide (n ≤ 12) = false := decide_eq_false (by omega)
  rw [hd] at FE
  clear hd
  unfold buV at *
  go_enter Try.func11, Try.ntmps11
  go_upto_region 1 with fail
  obtain ⟨w0, hw0⟩ : ∃ w0, ((w.alloc (.cells #[.int .i64 s, .int .i64 ww, .int .i64 t, .int .i64 en] 23)).alloc (.cells #[.int .i64 lo, .int .i64 hi, .int .i64 st, .slice A n c, .int .i64 S, .int .i64 ra] 81)) = w0 := ⟨_, rfl⟩
  have HB0 : Hid (Below w.heap.size w w0) := Lib.hid (by rw [← hw0]; exact (((Below.refl _ _).alloc (Nat.le_refl _) _).alloc (by simp; try omega) _))
  have HC := Lib.hid (fun wx (hb : Below w0.heap.size w0 wx) => (show wx.cell? ⟨w.heap.size, 0, none⟩ = some (.int .i64 s) ∧ wx.cell? ⟨w.heap.size, 1, none⟩ = some (.int .i64 ww) ∧ wx.cell? ⟨w.heap.size, 2, none⟩ = some (.int .i64 t) ∧ wx.cell? ⟨w.heap.size, 3, none⟩ = some (.int .i64 en) ∧ wx.cell? ⟨w.heap.size + 1, 0, none⟩ = some (.int .i64 lo) ∧ wx.cell? ⟨w.heap.size + 1, 1, none⟩ = some (.int .i64 hi) ∧ wx.cell? ⟨w.heap.size + 1, 2, none⟩ = some (.int .i64 st) ∧ wx.cell? ⟨w.heap.size + 1, 3, none⟩ = some (.slice A n c) ∧ wx.cell? ⟨w.heap.size + 1, 4, none⟩ = some (.int .i64 S) ∧ wx.cell? ⟨w.heap.size + 1, 5, none⟩ = some (.int .i64 ra) ∧ wx.frozen? ⟨w.heap.size, 0, none⟩ = false ∧ wx.frozen? ⟨w.heap.size, 1, none⟩ = false ∧ wx.frozen? ⟨w.heap.size, 2, none⟩ = false ∧ wx.frozen? ⟨w.heap.size, 3, none⟩ = false from by
    subst hw0
    obtain ⟨k, kf⟩ := bcell hb
    exact ⟨(k _ _ (by simp; try omega)).trans (by simp [go_sem]), (k _ _ (by simp; try omega)).trans (by simp [go_sem]), (k _ _ (by simp; try omega)).trans (by simp [go_sem]), (k _ _ (by simp; try omega)).trans (by simp [go_sem]), (k _ _ (by simp; try omega)).trans (by simp [go_sem]), (k _ _ (by simp; try omega)).trans (by simp [go_sem]), (k _ _ (by simp; try omega)).trans (by simp [go_sem]), (k _ _ (by simp; try omega)).trans (by simp [go_sem]), (k _ _ (by simp; try omega)).trans (by simp [go_sem]), (k _ _ (by simp; try omega)).trans (by simp [go_sem]), (kf _ _ (by simp; try omega)).trans (by simp [go_sem]), (kf _ _ (by simp; try omega)).trans (by simp [go_sem]), (kf _ _ (by simp; try omega)).trans (by simp [go_sem]), (kf _ _ (by simp; try omega)).trans (by simp [go_sem])⟩))
  rw [hw0]
  clear hw0
  go_upto_region 3 with (go_at_call 19; (refine Calls.mono (AW _).out ?_); rintro e w1 ⟨rfl, hb1⟩; have H1 := Lib.hid hb1; clear hb1)
  obtain ⟨c0, c1, c2, c3, c4, c5, c6, c7, c8, c9, z0_0, z0_1, z0_2, z0_3⟩ := HC.out w1 H1.out
  go_wp2_with (go_at_call 20; (refine Calls.mono (FE.out _) ?_); rintro e w2 ⟨rfl, hb2⟩; have H2 := Lib.hid (H1.out.trans (hb2.mono H1.out.size)); clear hb2)
  go_ret
  exact ⟨rfl, HB0.out.trans (H2.out.mono HB0.out.size)⟩
set_option maxHeartbeats 16000000 in
set_option maxRecDepth 20000 in
theorem thick_law {s ww t en lo hi st ra : Int} {A : Option Addr} {n c : Nat} {S : Int} {l : List Pt} (hn : n ≤ 12) {tv ev dz wt : Int}
    (LT : ∀ A c wx, PtRow wx A n l → Calls Try.prog 58 #[.agg #[.int .i64 s, .int .i64 ww, .int .i64 t, .int .i64 en], .agg #[.int .i64 lo, .int .i64 hi, .int .i64 st], buV A n c S, .int .i64 ra] wx fun e w' => e = .returned (.tuple #[.int .i64 tv, .int .i64 ev]) ∧ Below wx.heap.size wx w')
    (w : World) (CK : ∀ wx, Below w.heap.size w wx → Calls Try.prog 56 #[.agg #[.int .i64 s, .int .i64 ww, .int .i64 t, .int .i64 en], .agg #[.int .i64 lo, .int .i64 hi, .int .i64 st, .slice A n c, .int .i64 S, .int .i64 ra]] wx fun e w' => e = .returned (.int .i64 dz) ∧ Below wx.heap.size wx w')
    (RL : dz = 0 → ∀ wx, Below w.heap.size w wx → Calls Try.prog 59 #[.agg #[.int .i64 s, .int .i64 ww, .int .i64 t, .int .i64 en], .agg #[.int .i64 lo, .int .i64 hi, .int .i64 st], .agg #[.slice A n c, .int .i64 S], .int .i64 ra] wx fun e w' => e = .returned (.int .i64 wt) ∧ Below wx.heap.size wx w')
    (H1 : dz = 0 → wt ≠ 0 → ∀ A c wx, PtRow wx A n l → Calls Try.prog 55 #[.agg #[.int .i64 s, .int .i64 ww, .int .i64 tv, .int .i64 en], .agg #[.int .i64 lo, .int .i64 hi, .int .i64 st], buV A n c S, .int .i64 ra] wx fun e w' => e = .returned (.int .i64 0) ∧ Below wx.heap.size wx w')
    (H2 : dz = 0 → wt ≠ 0 → tv ≠ 1 → ∀ A c wx, PtRow wx A n l → Calls Try.prog 55 #[.agg #[.int .i64 s, .int .i64 ww, .int .i64 (tv - 1), .int .i64 en], .agg #[.int .i64 lo, .int .i64 hi, .int .i64 st], buV A n c S, .int .i64 ra] wx fun e w' => e = .returned (.int .i64 20) ∧ Below wx.heap.size wx w')
    (H : (dz ≠ 0 ∧ ev = dz ∧ tv = 0) ∨ (dz = 0 ∧ wt = 0 ∧ ev = 12 ∧ tv = 0) ∨ (dz = 0 ∧ wt ≠ 0 ∧ ev = 0 ∧ tv = wt ∧ 1 ≤ tv ∧ tv ≤ 300))
    (h : PtRow w A n l) :
    Calls Try.prog 11 #[.agg #[.int .i64 s, .int .i64 ww, .int .i64 t, .int .i64 en], .agg #[.int .i64 lo, .int .i64 hi, .int .i64 st, .slice A n c, .int .i64 S, .int .i64 ra]] w fun e w' => e = .returned (.bool true) ∧ Below w.heap.size w w' := by
  have HR := Lib.hid h
  have HLT := Lib.hid LT
  have HCK := Lib.hid CK
  have HRL := Lib.hid RL
  have HH1 := Lib.hid H1
  have HH2 := Lib.hid H2
  have HH := Lib.hid H
  have AW := fun wx => Lib.hid (awake_any wx)
  have FE := Lib.hid (fun wx => few_any (A := A) (n := n) (c := c) (S := S) wx)
  have hd : decide (n ≤ 12) = true := decide_eq_true hn
  rw [hd] at FE
  clear h LT CK RL H1 H2 H hd
  unfold buV at *
  go_enter Try.func11, Try.ntmps11
  go_upto_region 1 with fail
  obtain ⟨w0, hw0⟩ : ∃ w0, ((w.alloc (.cells #[.int .i64 s, .int .i64 ww, .int .i64 t, .int .i64 en] 23)).alloc (.cells #[.int .i64 lo, .int .i64 hi, .int .i64 st, .slice A n c, .int .i64 S, .int .i64 ra] 81)) = w0 := ⟨_, rfl⟩
  have HB0 : Hid (Below w.heap.size w w0) := Lib.hid (by rw [← hw0]; exact (((Below.refl _ _).alloc (Nat.le_refl _) _).alloc (by simp; try omega) _))
  have HC := Lib.hid (fun wx (hb : Below w0.heap.size w0 wx) => (show wx.cell? ⟨w.heap.size, 0, none⟩ = some (.int .i64 s) ∧ wx.cell? ⟨w.heap.size, 1, none⟩ = some (.int .i64 ww) ∧ wx.cell? ⟨w.heap.size, 2, none⟩ = some (.int .i64 t) ∧ wx.cell? ⟨w.heap.size, 3, none⟩ = some (.int .i64 en) ∧ wx.cell? ⟨w.heap.size + 1, 0, none⟩ = some (.int .i64 lo) ∧ wx.cell? ⟨w.heap.size + 1, 1, none⟩ = some (.int .i64 hi) ∧ wx.cell? ⟨w.heap.size + 1, 2, none⟩ = some (.int .i64 st) ∧ wx.cell? ⟨w.heap.size + 1, 3, none⟩ = some (.slice A n c) ∧ wx.cell? ⟨w.heap.size + 1, 4, none⟩ = some (.int .i64 S) ∧ wx.cell? ⟨w.heap.size + 1, 5, none⟩ = some (.int .i64 ra) ∧ wx.frozen? ⟨w.heap.size, 0, none⟩ = false ∧ wx.frozen? ⟨w.heap.size, 1, none⟩ = false ∧ wx.frozen? ⟨w.heap.size, 2, none⟩ = false ∧ wx.frozen? ⟨w.heap.size, 3, none⟩ = false from by
    subst hw0
    obtain ⟨k, kf⟩ := bcell hb
    exact ⟨(k _ _ (by simp; try omega)).trans (by simp [go_sem]), (k _ _ (by simp; try omega)).trans (by simp [go_sem]), (k _ _ (by simp; try omega)).trans (by simp [go_sem]), (k _ _ (by simp; try omega)).trans (by simp [go_sem]), (k _ _ (by simp; try omega)).trans (by simp [go_sem]), (k _ _ (by simp; try omega)).trans (by simp [go_sem]), (k _ _ (by simp; try omega)).trans (by simp [go_sem]), (k _ _ (by simp; try omega)).trans (by simp [go_sem]), (k _ _ (by simp; try omega)).trans (by simp [go_sem]), (k _ _ (by simp; try omega)).trans (by simp [go_sem]), (kf _ _ (by simp; try omega)).trans (by simp [go_sem]), (kf _ _ (by simp; try omega)).trans (by simp [go_sem]), (kf _ _ (by simp; try omega)).trans (by simp [go_sem]), (kf _ _ (by simp; try omega)).trans (by simp [go_sem])⟩))
  rw [hw0]
  clear hw0
  have HP0 : Hid (TkP w s ww en lo hi st S ra A n c t w0) := Lib.hid (by
    obtain ⟨c0, c1, c2, c3, c4, c5, c6, c7, c8, c9, z0, z1, z2, z3⟩ := HC.out w0 (Below.refl _ _)
    exact ⟨HB0.out, c0, c1, c2, c3, c4, c5, c6, c7, c8, c9, z2⟩)
  clear HC HB0
  go_upto_region 3 with (go_at_call 19; (refine Calls.mono (AW _).out ?_); rintro e w1 ⟨rfl, hb1⟩; have HP1 := Lib.hid (tkP_below HP0.out hb1); clear hb1)
  obtain ⟨bW, c0, c1, c2, c3, c4, c5, c6, c7, c8, c9, z⟩ := HP1.out
  go_upto_region 5 with (go_at_call 20; (refine Calls.mono (FE.out _) ?_); rintro e w2 ⟨rfl, hb2⟩; have HP2 := Lib.hid (tkP_below HP1.out hb2); clear hb2)
  clear bW c0 c1 c2 c3 c4 c5 c6 c7 c8 c9 z
  have HC2 := Lib.hid (fun wy (hy : Below w2.heap.size w2 wy) => tkP_below HP2.out hy)
  unfold TkP at HC2
  have HW2 := Lib.hid HP2.out.1
  refine wp_region_rkg [16, 17, 18, 19, 20, 21, 22, 23, 24, 15, 25, 26, 5, 6] [rEq (.agg #[.int .i64 s, .int .i64 ww, .int .i64 t, .int .i64 en]), rEq (.pointer (some ⟨w.heap.size + 1, 0, none⟩)), rEq (.agg #[.int .i64 lo, .int .i64 hi, .int .i64 st]), rEq (.pointer (some ⟨w.heap.size + 1, 3, none⟩)), rEq (.agg #[.slice A n c, .int .i64 S]), (rBur 0 l n S), rEq (.pointer (some ⟨w.heap.size + 1, 5, none⟩)), rEq (.int .i64 ra), rEq (.tuple #[.int .i64 tv, .int .i64 ev]), rEq (.tuple #[.int .i64 tv, .int .i64 ev]), rEq (.int .i64 tv), rEq (.int .i64 ev), rEq (.int .i64 tv), rEq (.int .i64 ev)] (by kernel_rfl) (by kernel_rfl) (by decide) rfl ⟨?_, ?_, ?_, ?_, ?_, ?_, ?_, ?_, ?_, ?_, ?_, ?_, ?_, ?_, trivial⟩ ?_
  · intro ac wx hf hb hd -- 0
    refine .inl ⟨wanted_free rfl, ?_⟩
    have f2 : ac.tmps[2]?.getD undef = .pointer (some ⟨w.heap.size, 0, none⟩) := by rw [← Array.getD_eq_getD_getElem?]; exact hf.same 2 (by decide)
    obtain ⟨bW, c0, c1, c2, c3, c4, c5, c6, c7, c8, c9, z⟩ := HC2.out wx hb
    exact rstep_eq (by simp [execOp, Act.eval, f2, c0, c1, c2, c3, go_sem]) rfl
  · intro ac wx hf hb hd -- 1
    refine .inl ⟨wanted_free rfl, ?_⟩
    have f3 : ac.tmps[3]?.getD undef = .pointer (some ⟨w.heap.size + 1, 0, none⟩) := by rw [← Array.getD_eq_getD_getElem?]; exact hf.same 3 (by decide)
    exact rstep_eq (by simp [execOp, Act.eval, f3, go_sem]) rfl
  · intro ac wx hf hb hd -- 2
    refine .inl ⟨wanted_free rfl, ?_⟩
    have d1 : ac.tmps[17]?.getD undef = .pointer (some ⟨w.heap.size + 1, 0, none⟩) := by rw [← Array.getD_eq_getD_getElem?]; exact hd 1 (by decide)
    obtain ⟨bW, c0, c1, c2, c3, c4, c5, c6, c7, c8, c9, z⟩ := HC2.out wx hb
    exact rstep_eq (by simp [execOp, Act.eval, d1, c4, c5, c6, go_sem]) rfl
  · intro ac wx hf hb hd -- 3
    refine .inl ⟨wanted_free rfl, ?_⟩
    have f3 : ac.tmps[3]?.getD undef = .pointer (some ⟨w.heap.size + 1, 0, none⟩) := by rw [← Array.getD_eq_getD_getElem?]; exact hf.same 3 (by decide)
    exact rstep_eq (by simp [execOp, Act.eval, f3, go_sem]) rfl
  · intro ac wx hf hb hd -- 4
    refine .inl ⟨wanted_free rfl, ?_⟩
    have d3 : ac.tmps[19]?.getD undef = .pointer (some ⟨w.heap.size + 1, 3, none⟩) := by rw [← Array.getD_eq_getD_getElem?]; exact hd 3 (by decide)
    obtain ⟨bW, c0, c1, c2, c3, c4, c5, c6, c7, c8, c9, z⟩ := HC2.out wx hb
    exact rstep_eq (by simp [execOp, Act.eval, d3, c7, c8, go_sem]) rfl
  · intro ac wx hf hb hd -- 5
    refine .inl ⟨wanted_free rfl, ?_⟩
    have d4 : ac.tmps[20]?.getD undef = .agg #[.slice A n c, .int .i64 S] := by rw [← Array.getD_eq_getD_getElem?]; exact hd 4 (by decide)
    exact rstep_copied (A := A) (c := c) (by omega) (HR.out.below (HW2.out.trans (hb.mono HW2.out.size))) (by simp [Act.eval, d4, buV, go_sem]) rfl
  · intro ac wx hf hb hd -- 6
    refine .inl ⟨wanted_free rfl, ?_⟩
    have f3 : ac.tmps[3]?.getD undef = .pointer (some ⟨w.heap.size + 1, 0, none⟩) := by rw [← Array.getD_eq_getD_getElem?]; exact hf.same 3 (by decide)
    exact rstep_eq (by simp [execOp, Act.eval, f3, go_sem]) rfl
  · intro ac wx hf hb hd -- 7
    refine .inl ⟨wanted_free rfl, ?_⟩
    have d6 : ac.tmps[22]?.getD undef = .pointer (some ⟨w.heap.size + 1, 5, none⟩) := by rw [← Array.getD_eq_getD_getElem?]; exact hd 6 (by decide)
    obtain ⟨bW, c0, c1, c2, c3, c4, c5, c6, c7, c8, c9, z⟩ := HC2.out wx hb
    exact rstep_eq (by simp [execOp, Act.eval, d6, c9, go_sem]) rfl
  · intro ac wx hf hb hd -- 8
    refine .inl ⟨wanted_free rfl, ?_⟩
    have d0 : ac.tmps[16]?.getD undef = .agg #[.int .i64 s, .int .i64 ww, .int .i64 t, .int .i64 en] := by rw [← Array.getD_eq_getD_getElem?]; exact hd 0 (by decide)
    have d2 : ac.tmps[18]?.getD undef = .agg #[.int .i64 lo, .int .i64 hi, .int .i64 st] := by rw [← Array.getD_eq_getD_getElem?]; exact hd 2 (by decide)
    obtain ⟨A5, cc5, d5, r5, -⟩ : ∃ A c, ac.tmps[21]?.getD undef = buV A n c S ∧ PtRow wx A n l ∧ _ := by rw [← Array.getD_eq_getD_getElem?]; exact hd 5 (by decide)
    have d7 : ac.tmps[23]?.getD undef = .int .i64 ra := by rw [← Array.getD_eq_getD_getElem?]; exact hd 7 (by decide)
    refine rstep_call (f := 58) (args := #[.agg #[.int .i64 s, .int .i64 ww, .int .i64 t, .int .i64 en], .agg #[.int .i64 lo, .int .i64 hi, .int .i64 st], buV A5 n cc5 S, .int .i64 ra]) (by simp [Act.eval, d0, d2, d5, d7, go_sem]) ?_ rfl
    exact HLT.out _ _ _ r5
  · intro ac wx hf hb hd -- 9
    refine .inl ⟨wanted_free rfl, ?_⟩
    have d8 : ac.tmps[24]?.getD undef = .tuple #[.int .i64 tv, .int .i64 ev] := by rw [← Array.getD_eq_getD_getElem?]; exact hd 8 (by decide)
    exact rstep_eq (by simp [execOp, Act.eval, d8, go_sem]) rfl
  · intro ac wx hf hb hd -- 10
    refine .inl ⟨wanted_free rfl, ?_⟩
    have d9 : ac.tmps[15]?.getD undef = .tuple #[.int .i64 tv, .int .i64 ev] := by rw [← Array.getD_eq_getD_getElem?]; exact hd 9 (by decide)
    exact rstep_eq (by simp [execOp, Act.eval, d9, go_sem]) rfl
  · intro ac wx hf hb hd -- 11
    refine .inl ⟨wanted_free rfl, ?_⟩
    have d9 : ac.tmps[15]?.getD undef = .tuple #[.int .i64 tv, .int .i64 ev] := by rw [← Array.getD_eq_getD_getElem?]; exact hd 9 (by decide)
    exact rstep_eq (by simp [execOp, Act.eval, d9, go_sem]) rfl
  · intro ac wx hf hb hd -- 12
    refine .inl ⟨wanted_free rfl, ?_⟩
    have d10 : ac.tmps[25]?.getD undef = .int .i64 tv := by rw [← Array.getD_eq_getD_getElem?]; exact hd 10 (by decide)
    exact rstep_eq (by simp [execOp, Act.eval, d10, go_sem]) rfl
  · intro ac wx hf hb hd -- 13
    refine .inl ⟨wanted_free rfl, ?_⟩
    have d11 : ac.tmps[26]?.getD undef = .int .i64 ev := by rw [← Array.getD_eq_getD_getElem?]; exact hd 11 (by decide)
    exact rstep_eq (by simp [execOp, Act.eval, d11, go_sem]) rfl
  rintro ⟨⟨ll⟩, df⟩ w4 hf hb4 hall
  have hdf : df = [] := hf.defers
  subst hdf
  have hsz : ll.length = 91 := hf.size
  obtain ⟨x0, ll0, rfl, hsz0⟩ := cons_of hsz
  obtain ⟨x1, ll1, rfl, hsz1⟩ := cons_of hsz0
  obtain ⟨x2, ll2, rfl, hsz2⟩ := cons_of hsz1
  obtain ⟨x3, ll3, rfl, hsz3⟩ := cons_of hsz2
  obtain ⟨x4, ll4, rfl, hsz4⟩ := cons_of hsz3
  obtain ⟨x5, ll5, rfl, hsz5⟩ := cons_of hsz4
  obtain ⟨x6, ll6, rfl, hsz6⟩ := cons_of hsz5
  obtain ⟨x7, ll7, rfl, hsz7⟩ := cons_of hsz6
  obtain ⟨x8, ll8, rfl, hsz8⟩ := cons_of hsz7
  obtain ⟨x9, ll9, rfl, hsz9⟩ := cons_of hsz8
  obtain ⟨x10, ll10, rfl, hsz10⟩ := cons_of hsz9
  obtain ⟨x11, ll11, rfl, hsz11⟩ := cons_of hsz10
  obtain ⟨x12, ll12, rfl, hsz12⟩ := cons_of hsz11
  obtain ⟨x13, ll13, rfl, hsz13⟩ := cons_of hsz12
  obtain ⟨x14, ll14, rfl, hsz14⟩ := cons_of hsz13
  obtain ⟨x15, ll15, rfl, hsz15⟩ := cons_of hsz14
  obtain ⟨x16, ll16, rfl, hsz16⟩ := cons_of hsz15
  obtain ⟨x17, ll17, rfl, hsz17⟩ := cons_of hsz16
  obtain ⟨x18, ll18, rfl, hsz18⟩ := cons_of hsz17
  obtain ⟨x19, ll19, rfl, hsz19⟩ := cons_of hsz18
  obtain ⟨x20, ll20, rfl, hsz20⟩ := cons_of hsz19
  obtain ⟨x21, ll21, rfl, hsz21⟩ := cons_of hsz20
  obtain ⟨x22, ll22, rfl, hsz22⟩ := cons_of hsz21
  obtain ⟨x23, ll23, rfl, hsz23⟩ := cons_of hsz22
  obtain ⟨x24, ll24, rfl, hsz24⟩ := cons_of hsz23
  obtain ⟨x25, ll25, rfl, hsz25⟩ := cons_of hsz24
  obtain ⟨x26, ll26, rfl, hsz26⟩ := cons_of hsz25
  obtain ⟨x27, ll27, rfl, hsz27⟩ := cons_of hsz26
  obtain ⟨x28, ll28, rfl, hsz28⟩ := cons_of hsz27
  obtain ⟨x29, ll29, rfl, hsz29⟩ := cons_of hsz28
  obtain ⟨x30, ll30, rfl, hsz30⟩ := cons_of hsz29
  obtain ⟨x31, ll31, rfl, hsz31⟩ := cons_of hsz30
  obtain ⟨x32, ll32, rfl, hsz32⟩ := cons_of hsz31
  obtain ⟨x33, ll33, rfl, hsz33⟩ := cons_of hsz32
  obtain ⟨x34, ll34, rfl, hsz34⟩ := cons_of hsz33
  obtain ⟨x35, ll35, rfl, hsz35⟩ := cons_of hsz34
  obtain ⟨x36, ll36, rfl, hsz36⟩ := cons_of hsz35
  obtain ⟨x37, ll37, rfl, hsz37⟩ := cons_of hsz36
  obtain ⟨x38, ll38, rfl, hsz38⟩ := cons_of hsz37
  obtain ⟨x39, ll39, rfl, hsz39⟩ := cons_of hsz38
  obtain ⟨x40, ll40, rfl, hsz40⟩ := cons_of hsz39
  obtain ⟨x41, ll41, rfl, hsz41⟩ := cons_of hsz40
  obtain ⟨x42, ll42, rfl, hsz42⟩ := cons_of hsz41
  obtain ⟨x43, ll43, rfl, hsz43⟩ := cons_of hsz42
  obtain ⟨x44, ll44, rfl, hsz44⟩ := cons_of hsz43
  obtain ⟨x45, ll45, rfl, hsz45⟩ := cons_of hsz44
  obtain ⟨x46, ll46, rfl, hsz46⟩ := cons_of hsz45
  obtain ⟨x47, ll47, rfl, hsz47⟩ := cons_of hsz46
  obtain ⟨x48, ll48, rfl, hsz48⟩ := cons_of hsz47
  obtain ⟨x49, ll49, rfl, hsz49⟩ := cons_of hsz48
  obtain ⟨x50, ll50, rfl, hsz50⟩ := cons_of hsz49
  obtain ⟨x51, ll51, rfl, hsz51⟩ := cons_of hsz50
  obtain ⟨x52, ll52, rfl, hsz52⟩ := cons_of hsz51
  obtain ⟨x53, ll53, rfl, hsz53⟩ := cons_of hsz52
  obtain ⟨x54, ll54, rfl, hsz54⟩ := cons_of hsz53
  obtain ⟨x55, ll55, rfl, hsz55⟩ := cons_of hsz54
  obtain ⟨x56, ll56, rfl, hsz56⟩ := cons_of hsz55
  obtain ⟨x57, ll57, rfl, hsz57⟩ := cons_of hsz56
  obtain ⟨x58, ll58, rfl, hsz58⟩ := cons_of hsz57
  obtain ⟨x59, ll59, rfl, hsz59⟩ := cons_of hsz58
  obtain ⟨x60, ll60, rfl, hsz60⟩ := cons_of hsz59
  obtain ⟨x61, ll61, rfl, hsz61⟩ := cons_of hsz60
  obtain ⟨x62, ll62, rfl, hsz62⟩ := cons_of hsz61
  obtain ⟨x63, ll63, rfl, hsz63⟩ := cons_of hsz62
  obtain ⟨x64, ll64, rfl, hsz64⟩ := cons_of hsz63
  obtain ⟨x65, ll65, rfl, hsz65⟩ := cons_of hsz64
  obtain ⟨x66, ll66, rfl, hsz66⟩ := cons_of hsz65
  obtain ⟨x67, ll67, rfl, hsz67⟩ := cons_of hsz66
  obtain ⟨x68, ll68, rfl, hsz68⟩ := cons_of hsz67
  obtain ⟨x69, ll69, rfl, hsz69⟩ := cons_of hsz68
  obtain ⟨x70, ll70, rfl, hsz70⟩ := cons_of hsz69
  obtain ⟨x71, ll71, rfl, hsz71⟩ := cons_of hsz70
  obtain ⟨x72, ll72, rfl, hsz72⟩ := cons_of hsz71
  obtain ⟨x73, ll73, rfl, hsz73⟩ := cons_of hsz72
  obtain ⟨x74, ll74, rfl, hsz74⟩ := cons_of hsz73
  obtain ⟨x75, ll75, rfl, hsz75⟩ := cons_of hsz74
  obtain ⟨x76, ll76, rfl, hsz76⟩ := cons_of hsz75
  obtain ⟨x77, ll77, rfl, hsz77⟩ := cons_of hsz76
  obtain ⟨x78, ll78, rfl, hsz78⟩ := cons_of hsz77
  obtain ⟨x79, ll79, rfl, hsz79⟩ := cons_of hsz78
  obtain ⟨x80, ll80, rfl, hsz80⟩ := cons_of hsz79
  obtain ⟨x81, ll81, rfl, hsz81⟩ := cons_of hsz80
  obtain ⟨x82, ll82, rfl, hsz82⟩ := cons_of hsz81
  obtain ⟨x83, ll83, rfl, hsz83⟩ := cons_of hsz82
  obtain ⟨x84, ll84, rfl, hsz84⟩ := cons_of hsz83
  obtain ⟨x85, ll85, rfl, hsz85⟩ := cons_of hsz84
  obtain ⟨x86, ll86, rfl, hsz86⟩ := cons_of hsz85
  obtain ⟨x87, ll87, rfl, hsz87⟩ := cons_of hsz86
  obtain ⟨x88, ll88, rfl, hsz88⟩ := cons_of hsz87
  obtain ⟨x89, ll89, rfl, hsz89⟩ := cons_of hsz88
  obtain ⟨x90, ll90, rfl, hsz90⟩ := cons_of hsz89
  obtain rfl := List.eq_nil_of_length_eq_zero hsz90
  obtain rfl : x0 = .agg #[.int .i64 s, .int .i64 ww, .int .i64 t, .int .i64 en] := hf.same 0 (by decide)
  obtain rfl : x1 = .agg #[.int .i64 lo, .int .i64 hi, .int .i64 st, .slice A n c, .int .i64 S, .int .i64 ra] := hf.same 1 (by decide)
  obtain rfl : x2 = .pointer (some ⟨w.heap.size, 0, none⟩) := hf.same 2 (by decide)
  obtain rfl : x3 = .pointer (some ⟨w.heap.size + 1, 0, none⟩) := hf.same 3 (by decide)
  obtain rfl : x5 = .int .i64 tv := hall 12 5 rfl
  obtain rfl : x6 = .int .i64 ev := hall 13 6 rfl
  obtain rfl : x15 = .tuple #[.int .i64 tv, .int .i64 ev] := hall 9 15 rfl
  obtain rfl : x16 = .agg #[.int .i64 s, .int .i64 ww, .int .i64 t, .int .i64 en] := hall 0 16 rfl
  obtain rfl : x17 = .pointer (some ⟨w.heap.size + 1, 0, none⟩) := hall 1 17 rfl
  obtain rfl : x18 = .agg #[.int .i64 lo, .int .i64 hi, .int .i64 st] := hall 2 18 rfl
  obtain rfl : x19 = .pointer (some ⟨w.heap.size + 1, 3, none⟩) := hall 3 19 rfl
  obtain rfl : x20 = .agg #[.slice A n c, .int .i64 S] := hall 4 20 rfl
  obtain rfl : x22 = .pointer (some ⟨w.heap.size + 1, 5, none⟩) := hall 6 22 rfl
  obtain rfl : x23 = .int .i64 ra := hall 7 23 rfl
  obtain rfl : x24 = .tuple #[.int .i64 tv, .int .i64 ev] := hall 8 24 rfl
  obtain rfl : x25 = .int .i64 tv := hall 10 25 rfl
  obtain rfl : x26 = .int .i64 ev := hall 11 26 rfl
  clear hall hf
  clear hsz hsz0 hsz1 hsz2 hsz3 hsz4 hsz5 hsz6 hsz7 hsz8 hsz9 hsz10 hsz11 hsz12 hsz13 hsz14 hsz15 hsz16 hsz17 hsz18 hsz19 hsz20 hsz21 hsz22 hsz23 hsz24 hsz25 hsz26 hsz27 hsz28 hsz29 hsz30 hsz31 hsz32 hsz33 hsz34 hsz35 hsz36 hsz37 hsz38 hsz39 hsz40 hsz41 hsz42 hsz43 hsz44 hsz45 hsz46 hsz47 hsz48 hsz49 hsz50 hsz51 hsz52 hsz53 hsz54 hsz55 hsz56 hsz57 hsz58 hsz59 hsz60 hsz61 hsz62 hsz63 hsz64 hsz65 hsz66 hsz67 hsz68 hsz69 hsz70 hsz71 hsz72 hsz73 hsz74 hsz75 hsz76 hsz77 hsz78 hsz79 hsz80 hsz81 hsz82 hsz83 hsz84 hsz85 hsz86 hsz87 hsz88 hsz89 hsz90
  have HP4 := Lib.hid (tkP_below HP2.out hb4)
  have HW4 := Lib.hid HP4.out.1
  clear hb4 HC2
  obtain ⟨bW, c0, c1, c2, c3, c4, c5, c6, c7, c8, c9, z⟩ := HP4.out
  go_upto_region 7 with (go_at_call 56; (with_reducible refine Calls.mono (HCK.out _ HW4.out) ?_); rintro e w5 ⟨rfl, hb5⟩; have HP5 := Lib.hid (tkP_below HP4.out hb5); clear hb5)
  have HW5 := Lib.hid HP5.out.1
  clear bW c0 c1 c2 c3 c4 c5 c6 c7 c8 c9 z
  obtain ⟨bW, c0, c1, c2, c3, c4, c5, c6, c7, c8, c9, z⟩ := HP5.out
  rcases HH.out with ⟨hdz, rfl, rfl⟩ | ⟨rfl, rfl, rfl, rfl⟩ | ⟨rfl, hw0, rfl, rfl, ht1, ht3⟩
  · have e1' : (ev == 0) = false := by simpa using hdz
    have e2' : (ev != 0) = true := by simpa using hdz
    go_wp2
    go_ret
    exact ⟨ret_bool (by simp), HW5.out⟩
  · have RL1 := HRL.out rfl
    have RL2 := Lib.hid RL1
    clear HRL RL1
    go_wp2_with (go_at_call 59; (with_reducible refine Calls.mono (RL2.out _ HW5.out) ?_); rintro e w6 ⟨rfl, hb6⟩; have H6 := Lib.hid (HW5.out.trans (hb6.mono HW5.out.size)); clear hb6)
    go_ret
    exact ⟨ret_bool (by simp), H6.out⟩
  · have RL1 := HRL.out rfl
    have RL2 := Lib.hid RL1
    have K1 := HH1.out rfl hw0
    have HK1 := Lib.hid K1
    have K2 := HH2.out rfl hw0
    have HK2 := Lib.hid K2
    clear HRL RL1 K1 K2 HH1 HH2 HH HCK HLT AW FE
    have e1' : (tv == 0) = false := by simpa using hw0
    have e2' : (tv != 0) = true := by simpa using hw0
    go_upto_region 10 with (go_at_call 59; (with_reducible refine Calls.mono (RL2.out _ HW5.out) ?_); rintro e w6 ⟨rfl, hb6⟩; have HP6 := Lib.hid (tkP_below HP5.out hb6); clear hb6)
    clear bW c0 c1 c2 c3 c4 c5 c6 c7 c8 c9 z
    obtain ⟨bW, c0, c1, c2, c3, c4, c5, c6, c7, c8, c9, z⟩ := HP6.out
    go_upto_region 15 with fail
    obtain ⟨w7, hw7⟩ : ∃ w7, w6.setCell ⟨w.heap.size, 2, none⟩ (.int .i64 tv) = w7 := ⟨_, rfl⟩
    have HP7 : Hid (TkP w s ww en lo hi st S ra A n c tv w7) := Lib.hid (by rw [← hw7]; exact tkP_set HP6.out)
    rw [hw7]
    clear hw7 bW c0 c1 c2 c3 c4 c5 c6 c7 c8 c9 z
    have HC7 := Lib.hid (fun wy (hy : Below w7.heap.size w7 wy) => tkP_below HP7.out hy)
    unfold TkP at HC7
    have HW7 := Lib.hid HP7.out.1
    refine wp_region_rk [64, 65, 66, 67, 68, 69, 70, 71, 72, 73] [rEq (.agg #[.int .i64 s, .int .i64 ww, .int .i64 tv, .int .i64 en]), rEq (.pointer (some ⟨w.heap.size + 1, 0, none⟩)), rEq (.agg #[.int .i64 lo, .int .i64 hi, .int .i64 st]), rEq (.pointer (some ⟨w.heap.size + 1, 3, none⟩)), rEq (.agg #[.slice A n c, .int .i64 S]), (rBur 0 l n S), rEq (.pointer (some ⟨w.heap.size + 1, 5, none⟩)), rEq (.int .i64 ra), rEq (.int .i64 0), rEq (.bool false)] (by kernel_rfl) (by kernel_rfl) (by decide) rfl ⟨?_, ?_, ?_, ?_, ?_, ?_, ?_, ?_, ?_, ?_, trivial⟩ ?_
    · intro ac wx hf hb hd -- 0
      have f2 : ac.tmps[2]?.getD undef = .pointer (some ⟨w.heap.size, 0, none⟩) := by rw [← Array.getD_eq_getD_getElem?]; exact hf.same 2 (by decide)
      obtain ⟨bW, c0, c1, c2, c3, c4, c5, c6, c7, c8, c9, z⟩ := HC7.out wx hb
      exact rstep_eq (by simp [execOp, Act.eval, f2, c0, c1, c2, c3, go_sem]) rfl
    · intro ac wx hf hb hd -- 1
      have f3 : ac.tmps[3]?.getD undef = .pointer (some ⟨w.heap.size + 1, 0, none⟩) := by rw [← Array.getD_eq_getD_getElem?]; exact hf.same 3 (by decide)
      exact rstep_eq (by simp [execOp, Act.eval, f3, go_sem]) rfl
    · intro ac wx hf hb hd -- 2
      have d1 : ac.tmps[65]?.getD undef = .pointer (some ⟨w.heap.size + 1, 0, none⟩) := by rw [← Array.getD_eq_getD_getElem?]; exact hd 1 (by decide)
      obtain ⟨bW, c0, c1, c2, c3, c4, c5, c6, c7, c8, c9, z⟩ := HC7.out wx hb
      exact rstep_eq (by simp [execOp, Act.eval, d1, c4, c5, c6, go_sem]) rfl
    · intro ac wx hf hb hd -- 3
      have f3 : ac.tmps[3]?.getD undef = .pointer (some ⟨w.heap.size + 1, 0, none⟩) := by rw [← Array.getD_eq_getD_getElem?]; exact hf.same 3 (by decide)
      exact rstep_eq (by simp [execOp, Act.eval, f3, go_sem]) rfl
    · intro ac wx hf hb hd -- 4
      have d3 : ac.tmps[67]?.getD undef = .pointer (some ⟨w.heap.size + 1, 3, none⟩) := by rw [← Array.getD_eq_getD_getElem?]; exact hd 3 (by decide)
      obtain ⟨bW, c0, c1, c2, c3, c4, c5, c6, c7, c8, c9, z⟩ := HC7.out wx hb
      exact rstep_eq (by simp [execOp, Act.eval, d3, c7, c8, go_sem]) rfl
    · intro ac wx hf hb hd -- 5
      have d4 : ac.tmps[68]?.getD undef = .agg #[.slice A n c, .int .i64 S] := by rw [← Array.getD_eq_getD_getElem?]; exact hd 4 (by decide)
      exact rstep_copied (A := A) (c := c) (by omega) (HR.out.below (HW7.out.trans (hb.mono HW7.out.size))) (by simp [Act.eval, d4, buV, go_sem]) rfl
    · intro ac wx hf hb hd -- 6
      have f3 : ac.tmps[3]?.getD undef = .pointer (some ⟨w.heap.size + 1, 0, none⟩) := by rw [← Array.getD_eq_getD_getElem?]; exact hf.same 3 (by decide)
      exact rstep_eq (by simp [execOp, Act.eval, f3, go_sem]) rfl
    · intro ac wx hf hb hd -- 7
      have d6 : ac.tmps[70]?.getD undef = .pointer (some ⟨w.heap.size + 1, 5, none⟩) := by rw [← Array.getD_eq_getD_getElem?]; exact hd 6 (by decide)
      obtain ⟨bW, c0, c1, c2, c3, c4, c5, c6, c7, c8, c9, z⟩ := HC7.out wx hb
      exact rstep_eq (by simp [execOp, Act.eval, d6, c9, go_sem]) rfl
    · intro ac wx hf hb hd -- 8
      have d0 : ac.tmps[64]?.getD undef = .agg #[.int .i64 s, .int .i64 ww, .int .i64 tv, .int .i64 en] := by rw [← Array.getD_eq_getD_getElem?]; exact hd 0 (by decide)
      have d2 : ac.tmps[66]?.getD undef = .agg #[.int .i64 lo, .int .i64 hi, .int .i64 st] := by rw [← Array.getD_eq_getD_getElem?]; exact hd 2 (by decide)
      obtain ⟨A5, cc5, d5, r5, -⟩ : ∃ A c, ac.tmps[69]?.getD undef = buV A n c S ∧ PtRow wx A n l ∧ _ := by rw [← Array.getD_eq_getD_getElem?]; exact hd 5 (by decide)
      have d7 : ac.tmps[71]?.getD undef = .int .i64 ra := by rw [← Array.getD_eq_getD_getElem?]; exact hd 7 (by decide)
      refine rstep_call (f := 55) (args := #[.agg #[.int .i64 s, .int .i64 ww, .int .i64 tv, .int .i64 en], .agg #[.int .i64 lo, .int .i64 hi, .int .i64 st], buV A5 n cc5 S, .int .i64 ra]) (by simp [Act.eval, d0, d2, d5, d7, go_sem]) ?_ rfl
      exact HK1.out _ _ _ r5
    · intro ac wx hf hb hd -- 9
      have d8 : ac.tmps[72]?.getD undef = .int .i64 0 := by rw [← Array.getD_eq_getD_getElem?]; exact hd 8 (by decide)
      exact rstep_eq (by simp [execOp, Act.eval, d8, go_sem]) rfl
    rintro ⟨⟨ll⟩, df⟩ w8 hf hb8 hall
    have hdf : df = [] := hf.defers
    subst hdf
    have hsz : ll.length = 91 := hf.size
    obtain ⟨x0, ll0, rfl, hsz0⟩ := cons_of hsz
    obtain ⟨x1, ll1, rfl, hsz1⟩ := cons_of hsz0
    obtain ⟨x2, ll2, rfl, hsz2⟩ := cons_of hsz1
    obtain ⟨x3, ll3, rfl, hsz3⟩ := cons_of hsz2
    obtain ⟨x4, ll4, rfl, hsz4⟩ := cons_of hsz3
    obtain ⟨x5, ll5, rfl, hsz5⟩ := cons_of hsz4
    obtain ⟨x6, ll6, rfl, hsz6⟩ := cons_of hsz5
    obtain ⟨x7, ll7, rfl, hsz7⟩ := cons_of hsz6
    obtain ⟨x8, ll8, rfl, hsz8⟩ := cons_of hsz7
    obtain ⟨x9, ll9, rfl, hsz9⟩ := cons_of hsz8
    obtain ⟨x10, ll10, rfl, hsz10⟩ := cons_of hsz9
    obtain ⟨x11, ll11, rfl, hsz11⟩ := cons_of hsz10
    obtain ⟨x12, ll12, rfl, hsz12⟩ := cons_of hsz11
    obtain ⟨x13, ll13, rfl, hsz13⟩ := cons_of hsz12
    obtain ⟨x14, ll14, rfl, hsz14⟩ := cons_of hsz13
    obtain ⟨x15, ll15, rfl, hsz15⟩ := cons_of hsz14
    obtain ⟨x16, ll16, rfl, hsz16⟩ := cons_of hsz15
    obtain ⟨x17, ll17, rfl, hsz17⟩ := cons_of hsz16
    obtain ⟨x18, ll18, rfl, hsz18⟩ := cons_of hsz17
    obtain ⟨x19, ll19, rfl, hsz19⟩ := cons_of hsz18
    obtain ⟨x20, ll20, rfl, hsz20⟩ := cons_of hsz19
    obtain ⟨x21, ll21, rfl, hsz21⟩ := cons_of hsz20
    obtain ⟨x22, ll22, rfl, hsz22⟩ := cons_of hsz21
    obtain ⟨x23, ll23, rfl, hsz23⟩ := cons_of hsz22
    obtain ⟨x24, ll24, rfl, hsz24⟩ := cons_of hsz23
    obtain ⟨x25, ll25, rfl, hsz25⟩ := cons_of hsz24
    obtain ⟨x26, ll26, rfl, hsz26⟩ := cons_of hsz25
    obtain ⟨x27, ll27, rfl, hsz27⟩ := cons_of hsz26
    obtain ⟨x28, ll28, rfl, hsz28⟩ := cons_of hsz27
    obtain ⟨x29, ll29, rfl, hsz29⟩ := cons_of hsz28
    obtain ⟨x30, ll30, rfl, hsz30⟩ := cons_of hsz29
    obtain ⟨x31, ll31, rfl, hsz31⟩ := cons_of hsz30
    obtain ⟨x32, ll32, rfl, hsz32⟩ := cons_of hsz31
    obtain ⟨x33, ll33, rfl, hsz33⟩ := cons_of hsz32
    obtain ⟨x34, ll34, rfl, hsz34⟩ := cons_of hsz33
    obtain ⟨x35, ll35, rfl, hsz35⟩ := cons_of hsz34
    obtain ⟨x36, ll36, rfl, hsz36⟩ := cons_of hsz35
    obtain ⟨x37, ll37, rfl, hsz37⟩ := cons_of hsz36
    obtain ⟨x38, ll38, rfl, hsz38⟩ := cons_of hsz37
    obtain ⟨x39, ll39, rfl, hsz39⟩ := cons_of hsz38
    obtain ⟨x40, ll40, rfl, hsz40⟩ := cons_of hsz39
    obtain ⟨x41, ll41, rfl, hsz41⟩ := cons_of hsz40
    obtain ⟨x42, ll42, rfl, hsz42⟩ := cons_of hsz41
    obtain ⟨x43, ll43, rfl, hsz43⟩ := cons_of hsz42
    obtain ⟨x44, ll44, rfl, hsz44⟩ := cons_of hsz43
    obtain ⟨x45, ll45, rfl, hsz45⟩ := cons_of hsz44
    obtain ⟨x46, ll46, rfl, hsz46⟩ := cons_of hsz45
    obtain ⟨x47, ll47, rfl, hsz47⟩ := cons_of hsz46
    obtain ⟨x48, ll48, rfl, hsz48⟩ := cons_of hsz47
    obtain ⟨x49, ll49, rfl, hsz49⟩ := cons_of hsz48
    obtain ⟨x50, ll50, rfl, hsz50⟩ := cons_of hsz49
    obtain ⟨x51, ll51, rfl, hsz51⟩ := cons_of hsz50
    obtain ⟨x52, ll52, rfl, hsz52⟩ := cons_of hsz51
    obtain ⟨x53, ll53, rfl, hsz53⟩ := cons_of hsz52
    obtain ⟨x54, ll54, rfl, hsz54⟩ := cons_of hsz53
    obtain ⟨x55, ll55, rfl, hsz55⟩ := cons_of hsz54
    obtain ⟨x56, ll56, rfl, hsz56⟩ := cons_of hsz55
    obtain ⟨x57, ll57, rfl, hsz57⟩ := cons_of hsz56
    obtain ⟨x58, ll58, rfl, hsz58⟩ := cons_of hsz57
    obtain ⟨x59, ll59, rfl, hsz59⟩ := cons_of hsz58
    obtain ⟨x60, ll60, rfl, hsz60⟩ := cons_of hsz59
    obtain ⟨x61, ll61, rfl, hsz61⟩ := cons_of hsz60
    obtain ⟨x62, ll62, rfl, hsz62⟩ := cons_of hsz61
    obtain ⟨x63, ll63, rfl, hsz63⟩ := cons_of hsz62
    obtain ⟨x64, ll64, rfl, hsz64⟩ := cons_of hsz63
    obtain ⟨x65, ll65, rfl, hsz65⟩ := cons_of hsz64
    obtain ⟨x66, ll66, rfl, hsz66⟩ := cons_of hsz65
    obtain ⟨x67, ll67, rfl, hsz67⟩ := cons_of hsz66
    obtain ⟨x68, ll68, rfl, hsz68⟩ := cons_of hsz67
    obtain ⟨x69, ll69, rfl, hsz69⟩ := cons_of hsz68
    obtain ⟨x70, ll70, rfl, hsz70⟩ := cons_of hsz69
    obtain ⟨x71, ll71, rfl, hsz71⟩ := cons_of hsz70
    obtain ⟨x72, ll72, rfl, hsz72⟩ := cons_of hsz71
    obtain ⟨x73, ll73, rfl, hsz73⟩ := cons_of hsz72
    obtain ⟨x74, ll74, rfl, hsz74⟩ := cons_of hsz73
    obtain ⟨x75, ll75, rfl, hsz75⟩ := cons_of hsz74
    obtain ⟨x76, ll76, rfl, hsz76⟩ := cons_of hsz75
    obtain ⟨x77, ll77, rfl, hsz77⟩ := cons_of hsz76
    obtain ⟨x78, ll78, rfl, hsz78⟩ := cons_of hsz77
    obtain ⟨x79, ll79, rfl, hsz79⟩ := cons_of hsz78
    obtain ⟨x80, ll80, rfl, hsz80⟩ := cons_of hsz79
    obtain ⟨x81, ll81, rfl, hsz81⟩ := cons_of hsz80
    obtain ⟨x82, ll82, rfl, hsz82⟩ := cons_of hsz81
    obtain ⟨x83, ll83, rfl, hsz83⟩ := cons_of hsz82
    obtain ⟨x84, ll84, rfl, hsz84⟩ := cons_of hsz83
    obtain ⟨x85, ll85, rfl, hsz85⟩ := cons_of hsz84
    obtain ⟨x86, ll86, rfl, hsz86⟩ := cons_of hsz85
    obtain ⟨x87, ll87, rfl, hsz87⟩ := cons_of hsz86
    obtain ⟨x88, ll88, rfl, hsz88⟩ := cons_of hsz87
    obtain ⟨x89, ll89, rfl, hsz89⟩ := cons_of hsz88
    obtain ⟨x90, ll90, rfl, hsz90⟩ := cons_of hsz89
    obtain rfl := List.eq_nil_of_length_eq_zero hsz90
    obtain rfl : x0 = .agg #[.int .i64 s, .int .i64 ww, .int .i64 t, .int .i64 en] := hf.same 0 (by decide)
    obtain rfl : x1 = .agg #[.int .i64 lo, .int .i64 hi, .int .i64 st, .slice A n c, .int .i64 S, .int .i64 ra] := hf.same 1 (by decide)
    obtain rfl : x2 = .pointer (some ⟨w.heap.size, 0, none⟩) := hf.same 2 (by decide)
    obtain rfl : x3 = .pointer (some ⟨w.heap.size + 1, 0, none⟩) := hf.same 3 (by decide)
    obtain rfl : x5 = .int .i64 tv := hf.same 5 (by decide)
    obtain rfl : x6 = .int .i64 0 := hf.same 6 (by decide)
    obtain rfl : x7 = .int .i64 0 := hf.same 7 (by decide)
    obtain rfl : x8 = .int .i64 tv := hf.same 8 (by decide)
    obtain rfl : x64 = .agg #[.int .i64 s, .int .i64 ww, .int .i64 tv, .int .i64 en] := hall 0 64 rfl
    obtain rfl : x65 = .pointer (some ⟨w.heap.size + 1, 0, none⟩) := hall 1 65 rfl
    obtain rfl : x66 = .agg #[.int .i64 lo, .int .i64 hi, .int .i64 st] := hall 2 66 rfl
    obtain rfl : x67 = .pointer (some ⟨w.heap.size + 1, 3, none⟩) := hall 3 67 rfl
    obtain rfl : x68 = .agg #[.slice A n c, .int .i64 S] := hall 4 68 rfl
    obtain rfl : x70 = .pointer (some ⟨w.heap.size + 1, 5, none⟩) := hall 6 70 rfl
    obtain rfl : x71 = .int .i64 ra := hall 7 71 rfl
    obtain rfl : x72 = .int .i64 0 := hall 8 72 rfl
    obtain rfl : x73 = .bool false := hall 9 73 rfl
    clear hall hf
    clear hsz hsz0 hsz1 hsz2 hsz3 hsz4 hsz5 hsz6 hsz7 hsz8 hsz9 hsz10 hsz11 hsz12 hsz13 hsz14 hsz15 hsz16 hsz17 hsz18 hsz19 hsz20 hsz21 hsz22 hsz23 hsz24 hsz25 hsz26 hsz27 hsz28 hsz29 hsz30 hsz31 hsz32 hsz33 hsz34 hsz35 hsz36 hsz37 hsz38 hsz39 hsz40 hsz41 hsz42 hsz43 hsz44 hsz45 hsz46 hsz47 hsz48 hsz49 hsz50 hsz51 hsz52 hsz53 hsz54 hsz55 hsz56 hsz57 hsz58 hsz59 hsz60 hsz61 hsz62 hsz63 hsz64 hsz65 hsz66 hsz67 hsz68 hsz69 hsz70 hsz71 hsz72 hsz73 hsz74 hsz75 hsz76 hsz77 hsz78 hsz79 hsz80 hsz81 hsz82 hsz83 hsz84 hsz85 hsz86 hsz87 hsz88 hsz89 hsz90
    have HP8 := Lib.hid (tkP_below HP7.out hb8)
    clear hb8 HC7
    obtain ⟨bW, c0, c1, c2, c3, c4, c5, c6, c7, c8, c9, z⟩ := HP8.out
    have hwr : IntKind.i64.wrap (tv - 1) = tv - 1 := by rw [IntKind.wrap_i64]; omega
    go_upto_region 18 with fail
    obtain ⟨w9, hw9⟩ : ∃ w9, w8.setCell ⟨w.heap.size, 2, none⟩ (.int .i64 (tv - 1)) = w9 := ⟨_, rfl⟩
    have HP9 : Hid (TkP w s ww en lo hi st S ra A n c (tv - 1) w9) := Lib.hid (by rw [← hw9]; exact tkP_set HP8.out)
    rw [hw9]
    clear hw9 bW c0 c1 c2 c3 c4 c5 c6 c7 c8 c9 z
    have HC9 := Lib.hid (fun wy (hy : Below w9.heap.size w9 wy) => tkP_below HP9.out hy)
    unfold TkP at HC9
    have HW9 := Lib.hid HP9.out.1
    by_cases hone : tv = 1
    · have hod : (tv == 1) = true := by simpa using hone
      have HOD := Lib.hid (And.intro hone hod)
      clear hone hod
      refine wp_region_rkg [77, 78, 79, 80, 81, 82, 83, 84, 85, 86, 87, 88, 89, 90, 4] [rEq (.int .i64 tv), rEq (.bool true), rEq (.bool true), (rAny), (rAny), (rAny), (rAny), (rAny), (rAny), (rAny), (rAny), (rAny), (rAny), rEq (.bool true), rEq (.bool true)] (by kernel_rfl) (by kernel_rfl) (by decide) rfl ⟨?_, ?_, ?_, ?_, ?_, ?_, ?_, ?_, ?_, ?_, ?_, ?_, ?_, ?_, ?_, trivial⟩ ?_
      · intro ac wx hf hb hd -- 0
        refine .inl ⟨wanted_free rfl, ?_⟩
        have f5 : ac.tmps[5]?.getD undef = .int .i64 tv := by rw [← Array.getD_eq_getD_getElem?]; exact hf.same 5 (by decide)
        exact rstep_eq (by simp [execOp, Act.eval, f5, go_sem]) rfl
      · intro ac wx hf hb hd -- 1
        refine .inl ⟨wanted_free rfl, ?_⟩
        have d0 : ac.tmps[77]?.getD undef = .int .i64 tv := by rw [← Array.getD_eq_getD_getElem?]; exact hd 0 (by decide)
        exact rstep_eq (by simp [execOp, Act.eval, d0, HOD.out.2, go_sem]) rfl
      · intro ac wx hf hb hd -- 2
        refine .inl ⟨wanted_free rfl, ?_⟩
        have d1 : ac.tmps[78]?.getD undef = .bool true := by rw [← Array.getD_eq_getD_getElem?]; exact hd 1 (by decide)
        exact rstep_eq (by simp [execOp, Act.eval, d1, go_sem]) rfl
      · intro ac wx hf hb hd -- 3
        exact .inr ⟨wanted_not (j := 2) (d := 79) (b := false) rfl rfl (hd 2 (by decide)), by first | exact trivial | rfl⟩
      · intro ac wx hf hb hd -- 4
        exact .inr ⟨wanted_not (j := 2) (d := 79) (b := false) rfl rfl (hd 2 (by decide)), by first | exact trivial | rfl⟩
      · intro ac wx hf hb hd -- 5
        exact .inr ⟨wanted_not (j := 2) (d := 79) (b := false) rfl rfl (hd 2 (by decide)), by first | exact trivial | rfl⟩
      · intro ac wx hf hb hd -- 6
        exact .inr ⟨wanted_not (j := 2) (d := 79) (b := false) rfl rfl (hd 2 (by decide)), by first | exact trivial | rfl⟩
      · intro ac wx hf hb hd -- 7
        exact .inr ⟨wanted_not (j := 2) (d := 79) (b := false) rfl rfl (hd 2 (by decide)), by first | exact trivial | rfl⟩
      · intro ac wx hf hb hd -- 8
        exact .inr ⟨wanted_not (j := 2) (d := 79) (b := false) rfl rfl (hd 2 (by decide)), by first | exact trivial | rfl⟩
      · intro ac wx hf hb hd -- 9
        exact .inr ⟨wanted_not (j := 2) (d := 79) (b := false) rfl rfl (hd 2 (by decide)), by first | exact trivial | rfl⟩
      · intro ac wx hf hb hd -- 10
        exact .inr ⟨wanted_not (j := 2) (d := 79) (b := false) rfl rfl (hd 2 (by decide)), by first | exact trivial | rfl⟩
      · intro ac wx hf hb hd -- 11
        exact .inr ⟨wanted_not (j := 2) (d := 79) (b := false) rfl rfl (hd 2 (by decide)), by first | exact trivial | rfl⟩
      · intro ac wx hf hb hd -- 12
        exact .inr ⟨wanted_not (j := 2) (d := 79) (b := false) rfl rfl (hd 2 (by decide)), by first | exact trivial | rfl⟩
      · intro ac wx hf hb hd -- 13
        refine .inl ⟨wanted_free rfl, ?_⟩
        have d2 : ac.tmps[79]?.getD undef = .bool true := by rw [← Array.getD_eq_getD_getElem?]; exact hd 2 (by decide)
        exact rstep_eq (by simp [execOp, Act.eval, d2, go_sem]) rfl
      · intro ac wx hf hb hd -- 14
        refine .inl ⟨wanted_free rfl, ?_⟩
        have d13 : ac.tmps[90]?.getD undef = .bool true := by rw [← Array.getD_eq_getD_getElem?]; exact hd 13 (by decide)
        exact rstep_eq (by simp [execOp, Act.eval, d13, go_sem]) rfl
      rintro ⟨⟨ll⟩, df⟩ w10 hf hb10 hall
      have hdf : df = [] := hf.defers
      subst hdf
      have hsz : ll.length = 91 := hf.size
      obtain ⟨x0, ll0, rfl, hsz0⟩ := cons_of hsz
      obtain ⟨x1, ll1, rfl, hsz1⟩ := cons_of hsz0
      obtain ⟨x2, ll2, rfl, hsz2⟩ := cons_of hsz1
      obtain ⟨x3, ll3, rfl, hsz3⟩ := cons_of hsz2
      obtain ⟨x4, ll4, rfl, hsz4⟩ := cons_of hsz3
      obtain ⟨x5, ll5, rfl, hsz5⟩ := cons_of hsz4
      obtain ⟨x6, ll6, rfl, hsz6⟩ := cons_of hsz5
      obtain ⟨x7, ll7, rfl, hsz7⟩ := cons_of hsz6
      obtain ⟨x8, ll8, rfl, hsz8⟩ := cons_of hsz7
      obtain ⟨x9, ll9, rfl, hsz9⟩ := cons_of hsz8
      obtain ⟨x10, ll10, rfl, hsz10⟩ := cons_of hsz9
      obtain ⟨x11, ll11, rfl, hsz11⟩ := cons_of hsz10
      obtain ⟨x12, ll12, rfl, hsz12⟩ := cons_of hsz11
      obtain ⟨x13, ll13, rfl, hsz13⟩ := cons_of hsz12
      obtain ⟨x14, ll14, rfl, hsz14⟩ := cons_of hsz13
      obtain ⟨x15, ll15, rfl, hsz15⟩ := cons_of hsz14
      obtain ⟨x16, ll16, rfl, hsz16⟩ := cons_of hsz15
      obtain ⟨x17, ll17, rfl, hsz17⟩ := cons_of hsz16
      obtain ⟨x18, ll18, rfl, hsz18⟩ := cons_of hsz17
      obtain ⟨x19, ll19, rfl, hsz19⟩ := cons_of hsz18
      obtain ⟨x20, ll20, rfl, hsz20⟩ := cons_of hsz19
      obtain ⟨x21, ll21, rfl, hsz21⟩ := cons_of hsz20
      obtain ⟨x22, ll22, rfl, hsz22⟩ := cons_of hsz21
      obtain ⟨x23, ll23, rfl, hsz23⟩ := cons_of hsz22
      obtain ⟨x24, ll24, rfl, hsz24⟩ := cons_of hsz23
      obtain ⟨x25, ll25, rfl, hsz25⟩ := cons_of hsz24
      obtain ⟨x26, ll26, rfl, hsz26⟩ := cons_of hsz25
      obtain ⟨x27, ll27, rfl, hsz27⟩ := cons_of hsz26
      obtain ⟨x28, ll28, rfl, hsz28⟩ := cons_of hsz27
      obtain ⟨x29, ll29, rfl, hsz29⟩ := cons_of hsz28
      obtain ⟨x30, ll30, rfl, hsz30⟩ := cons_of hsz29
      obtain ⟨x31, ll31, rfl, hsz31⟩ := cons_of hsz30
      obtain ⟨x32, ll32, rfl, hsz32⟩ := cons_of hsz31
      obtain ⟨x33, ll33, rfl, hsz33⟩ := cons_of hsz32
      obtain ⟨x34, ll34, rfl, hsz34⟩ := cons_of hsz33
      obtain ⟨x35, ll35, rfl, hsz35⟩ := cons_of hsz34
      obtain ⟨x36, ll36, rfl, hsz36⟩ := cons_of hsz35
      obtain ⟨x37, ll37, rfl, hsz37⟩ := cons_of hsz36
      obtain ⟨x38, ll38, rfl, hsz38⟩ := cons_of hsz37
      obtain ⟨x39, ll39, rfl, hsz39⟩ := cons_of hsz38
      obtain ⟨x40, ll40, rfl, hsz40⟩ := cons_of hsz39
      obtain ⟨x41, ll41, rfl, hsz41⟩ := cons_of hsz40
      obtain ⟨x42, ll42, rfl, hsz42⟩ := cons_of hsz41
      obtain ⟨x43, ll43, rfl, hsz43⟩ := cons_of hsz42
      obtain ⟨x44, ll44, rfl, hsz44⟩ := cons_of hsz43
      obtain ⟨x45, ll45, rfl, hsz45⟩ := cons_of hsz44
      obtain ⟨x46, ll46, rfl, hsz46⟩ := cons_of hsz45
      obtain ⟨x47, ll47, rfl, hsz47⟩ := cons_of hsz46
      obtain ⟨x48, ll48, rfl, hsz48⟩ := cons_of hsz47
      obtain ⟨x49, ll49, rfl, hsz49⟩ := cons_of hsz48
      obtain ⟨x50, ll50, rfl, hsz50⟩ := cons_of hsz49
      obtain ⟨x51, ll51, rfl, hsz51⟩ := cons_of hsz50
      obtain ⟨x52, ll52, rfl, hsz52⟩ := cons_of hsz51
      obtain ⟨x53, ll53, rfl, hsz53⟩ := cons_of hsz52
      obtain ⟨x54, ll54, rfl, hsz54⟩ := cons_of hsz53
      obtain ⟨x55, ll55, rfl, hsz55⟩ := cons_of hsz54
      obtain ⟨x56, ll56, rfl, hsz56⟩ := cons_of hsz55
      obtain ⟨x57, ll57, rfl, hsz57⟩ := cons_of hsz56
      obtain ⟨x58, ll58, rfl, hsz58⟩ := cons_of hsz57
      obtain ⟨x59, ll59, rfl, hsz59⟩ := cons_of hsz58
      obtain ⟨x60, ll60, rfl, hsz60⟩ := cons_of hsz59
      obtain ⟨x61, ll61, rfl, hsz61⟩ := cons_of hsz60
      obtain ⟨x62, ll62, rfl, hsz62⟩ := cons_of hsz61
      obtain ⟨x63, ll63, rfl, hsz63⟩ := cons_of hsz62
      obtain ⟨x64, ll64, rfl, hsz64⟩ := cons_of hsz63
      obtain ⟨x65, ll65, rfl, hsz65⟩ := cons_of hsz64
      obtain ⟨x66, ll66, rfl, hsz66⟩ := cons_of hsz65
      obtain ⟨x67, ll67, rfl, hsz67⟩ := cons_of hsz66
      obtain ⟨x68, ll68, rfl, hsz68⟩ := cons_of hsz67
      obtain ⟨x69, ll69, rfl, hsz69⟩ := cons_of hsz68
      obtain ⟨x70, ll70, rfl, hsz70⟩ := cons_of hsz69
      obtain ⟨x71, ll71, rfl, hsz71⟩ := cons_of hsz70
      obtain ⟨x72, ll72, rfl, hsz72⟩ := cons_of hsz71
      obtain ⟨x73, ll73, rfl, hsz73⟩ := cons_of hsz72
      obtain ⟨x74, ll74, rfl, hsz74⟩ := cons_of hsz73
      obtain ⟨x75, ll75, rfl, hsz75⟩ := cons_of hsz74
      obtain ⟨x76, ll76, rfl, hsz76⟩ := cons_of hsz75
      obtain ⟨x77, ll77, rfl, hsz77⟩ := cons_of hsz76
      obtain ⟨x78, ll78, rfl, hsz78⟩ := cons_of hsz77
      obtain ⟨x79, ll79, rfl, hsz79⟩ := cons_of hsz78
      obtain ⟨x80, ll80, rfl, hsz80⟩ := cons_of hsz79
      obtain ⟨x81, ll81, rfl, hsz81⟩ := cons_of hsz80
      obtain ⟨x82, ll82, rfl, hsz82⟩ := cons_of hsz81
      obtain ⟨x83, ll83, rfl, hsz83⟩ := cons_of hsz82
      obtain ⟨x84, ll84, rfl, hsz84⟩ := cons_of hsz83
      obtain ⟨x85, ll85, rfl, hsz85⟩ := cons_of hsz84
      obtain ⟨x86, ll86, rfl, hsz86⟩ := cons_of hsz85
      obtain ⟨x87, ll87, rfl, hsz87⟩ := cons_of hsz86
      obtain ⟨x88, ll88, rfl, hsz88⟩ := cons_of hsz87
      obtain ⟨x89, ll89, rfl, hsz89⟩ := cons_of hsz88
      obtain ⟨x90, ll90, rfl, hsz90⟩ := cons_of hsz89
      obtain rfl := List.eq_nil_of_length_eq_zero hsz90
      obtain rfl : x0 = .agg #[.int .i64 s, .int .i64 ww, .int .i64 t, .int .i64 en] := hf.same 0 (by decide)
      obtain rfl : x1 = .agg #[.int .i64 lo, .int .i64 hi, .int .i64 st, .slice A n c, .int .i64 S, .int .i64 ra] := hf.same 1 (by decide)
      obtain rfl : x2 = .pointer (some ⟨w.heap.size, 0, none⟩) := hf.same 2 (by decide)
      obtain rfl : x3 = .pointer (some ⟨w.heap.size + 1, 0, none⟩) := hf.same 3 (by decide)
      obtain rfl : x4 = .bool true := hall 14 4 rfl
      obtain rfl : x5 = .int .i64 tv := hf.same 5 (by decide)
      obtain rfl : x6 = .int .i64 0 := hf.same 6 (by decide)
      obtain rfl : x7 = .int .i64 0 := hf.same 7 (by decide)
      obtain rfl : x8 = .int .i64 tv := hf.same 8 (by decide)
      obtain rfl : x77 = .int .i64 tv := hall 0 77 rfl
      obtain rfl : x78 = .bool true := hall 1 78 rfl
      obtain rfl : x79 = .bool true := hall 2 79 rfl
      obtain rfl : x90 = .bool true := hall 13 90 rfl
      clear hall hf
      clear hsz hsz0 hsz1 hsz2 hsz3 hsz4 hsz5 hsz6 hsz7 hsz8 hsz9 hsz10 hsz11 hsz12 hsz13 hsz14 hsz15 hsz16 hsz17 hsz18 hsz19 hsz20 hsz21 hsz22 hsz23 hsz24 hsz25 hsz26 hsz27 hsz28 hsz29 hsz30 hsz31 hsz32 hsz33 hsz34 hsz35 hsz36 hsz37 hsz38 hsz39 hsz40 hsz41 hsz42 hsz43 hsz44 hsz45 hsz46 hsz47 hsz48 hsz49 hsz50 hsz51 hsz52 hsz53 hsz54 hsz55 hsz56 hsz57 hsz58 hsz59 hsz60 hsz61 hsz62 hsz63 hsz64 hsz65 hsz66 hsz67 hsz68 hsz69 hsz70 hsz71 hsz72 hsz73 hsz74 hsz75 hsz76 hsz77 hsz78 hsz79 hsz80 hsz81 hsz82 hsz83 hsz84 hsz85 hsz86 hsz87 hsz88 hsz89 hsz90
      go_wp2
      go_ret
      exact ⟨rfl, HW9.out.trans (hb10.mono HW9.out.size)⟩
    · have hod : (tv == 1) = false := by simpa using hone
      have HOD := Lib.hid (And.intro (show tv ≠ 1 from hone) hod)
      clear hone hod
      refine wp_region_rkg [77, 78, 79, 80, 81, 82, 83, 84, 85, 86, 87, 88, 89, 90, 4] [rEq (.int .i64 tv), rEq (.bool false), rEq (.bool false), rEq (.agg #[.int .i64 s, .int .i64 ww, .int .i64 (tv - 1), .int .i64 en]), rEq (.pointer (some ⟨w.heap.size + 1, 0, none⟩)), rEq (.agg #[.int .i64 lo, .int .i64 hi, .int .i64 st]), rEq (.pointer (some ⟨w.heap.size + 1, 3, none⟩)), rEq (.agg #[.slice A n c, .int .i64 S]), (rBur 0 l n S), rEq (.pointer (some ⟨w.heap.size + 1, 5, none⟩)), rEq (.int .i64 ra), rEq (.int .i64 20), rEq (.bool true), rEq (.bool true), rEq (.bool true)] (by kernel_rfl) (by kernel_rfl) (by decide) rfl ⟨?_, ?_, ?_, ?_, ?_, ?_, ?_, ?_, ?_, ?_, ?_, ?_, ?_, ?_, ?_, trivial⟩ ?_
      · intro ac wx hf hb hd -- 0
        refine .inl ⟨wanted_free rfl, ?_⟩
        have f5 : ac.tmps[5]?.getD undef = .int .i64 tv := by rw [← Array.getD_eq_getD_getElem?]; exact hf.same 5 (by decide)
        exact rstep_eq (by simp [execOp, Act.eval, f5, go_sem]) rfl
      · intro ac wx hf hb hd -- 1
        refine .inl ⟨wanted_free rfl, ?_⟩
        have d0 : ac.tmps[77]?.getD undef = .int .i64 tv := by rw [← Array.getD_eq_getD_getElem?]; exact hd 0 (by decide)
        exact rstep_eq (by simp [execOp, Act.eval, d0, HOD.out.2, go_sem]) rfl
      · intro ac wx hf hb hd -- 2
        refine .inl ⟨wanted_free rfl, ?_⟩
        have d1 : ac.tmps[78]?.getD undef = .bool false := by rw [← Array.getD_eq_getD_getElem?]; exact hd 1 (by decide)
        exact rstep_eq (by simp [execOp, Act.eval, d1, go_sem]) rfl
      · intro ac wx hf hb hd -- 3
        refine .inl ⟨wanted_by (j := 2) (d := 79) (b := false) rfl rfl (hd 2 (by decide)), ?_⟩
        have f2 : ac.tmps[2]?.getD undef = .pointer (some ⟨w.heap.size, 0, none⟩) := by rw [← Array.getD_eq_getD_getElem?]; exact hf.same 2 (by decide)
        obtain ⟨bW, c0, c1, c2, c3, c4, c5, c6, c7, c8, c9, z⟩ := HC9.out wx hb
        exact rstep_eq (by simp [execOp, Act.eval, f2, c0, c1, c2, c3, go_sem]) rfl
      · intro ac wx hf hb hd -- 4
        refine .inl ⟨wanted_by (j := 2) (d := 79) (b := false) rfl rfl (hd 2 (by decide)), ?_⟩
        have f3 : ac.tmps[3]?.getD undef = .pointer (some ⟨w.heap.size + 1, 0, none⟩) := by rw [← Array.getD_eq_getD_getElem?]; exact hf.same 3 (by decide)
        exact rstep_eq (by simp [execOp, Act.eval, f3, go_sem]) rfl
      · intro ac wx hf hb hd -- 5
        refine .inl ⟨wanted_by (j := 2) (d := 79) (b := false) rfl rfl (hd 2 (by decide)), ?_⟩
        have d4 : ac.tmps[81]?.getD undef = .pointer (some ⟨w.heap.size + 1, 0, none⟩) := by rw [← Array.getD_eq_getD_getElem?]; exact hd 4 (by decide)
        obtain ⟨bW, c0, c1, c2, c3, c4, c5, c6, c7, c8, c9, z⟩ := HC9.out wx hb
        exact rstep_eq (by simp [execOp, Act.eval, d4, c4, c5, c6, go_sem]) rfl
      · intro ac wx hf hb hd -- 6
        refine .inl ⟨wanted_by (j := 2) (d := 79) (b := false) rfl rfl (hd 2 (by decide)), ?_⟩
        have f3 : ac.tmps[3]?.getD undef = .pointer (some ⟨w.heap.size + 1, 0, none⟩) := by rw [← Array.getD_eq_getD_getElem?]; exact hf.same 3 (by decide)
        exact rstep_eq (by simp [execOp, Act.eval, f3, go_sem]) rfl
      · intro ac wx hf hb hd -- 7
        refine .inl ⟨wanted_by (j := 2) (d := 79) (b := false) rfl rfl (hd 2 (by decide)), ?_⟩
        have d6 : ac.tmps[83]?.getD undef = .pointer (some ⟨w.heap.size + 1, 3, none⟩) := by rw [← Array.getD_eq_getD_getElem?]; exact hd 6 (by decide)
        obtain ⟨bW, c0, c1, c2, c3, c4, c5, c6, c7, c8, c9, z⟩ := HC9.out wx hb
        exact rstep_eq (by simp [execOp, Act.eval, d6, c7, c8, go_sem]) rfl
      · intro ac wx hf hb hd -- 8
        refine .inl ⟨wanted_by (j := 2) (d := 79) (b := false) rfl rfl (hd 2 (by decide)), ?_⟩
        have d7 : ac.tmps[84]?.getD undef = .agg #[.slice A n c, .int .i64 S] := by rw [← Array.getD_eq_getD_getElem?]; exact hd 7 (by decide)
        exact rstep_copied (A := A) (c := c) (by omega) (HR.out.below (HW9.out.trans (hb.mono HW9.out.size))) (by simp [Act.eval, d7, buV, go_sem]) rfl
      · intro ac wx hf hb hd -- 9
        refine .inl ⟨wanted_by (j := 2) (d := 79) (b := false) rfl rfl (hd 2 (by decide)), ?_⟩
        have f3 : ac.tmps[3]?.getD undef = .pointer (some ⟨w.heap.size + 1, 0, none⟩) := by rw [← Array.getD_eq_getD_getElem?]; exact hf.same 3 (by decide)
        exact rstep_eq (by simp [execOp, Act.eval, f3, go_sem]) rfl
      · intro ac wx hf hb hd -- 10
        refine .inl ⟨wanted_by (j := 2) (d := 79) (b := false) rfl rfl (hd 2 (by decide)), ?_⟩
        have d9 : ac.tmps[86]?.getD undef = .pointer (some ⟨w.heap.size + 1, 5, none⟩) := by rw [← Array.getD_eq_getD_getElem?]; exact hd 9 (by decide)
        obtain ⟨bW, c0, c1, c2, c3, c4, c5, c6, c7, c8, c9, z⟩ := HC9.out wx hb
        exact rstep_eq (by simp [execOp, Act.eval, d9, c9, go_sem]) rfl
      · intro ac wx hf hb hd -- 11
        refine .inl ⟨wanted_by (j := 2) (d := 79) (b := false) rfl rfl (hd 2 (by decide)), ?_⟩
        have d3 : ac.tmps[80]?.getD undef = .agg #[.int .i64 s, .int .i64 ww, .int .i64 (tv - 1), .int .i64 en] := by rw [← Array.getD_eq_getD_getElem?]; exact hd 3 (by decide)
        have d5 : ac.tmps[82]?.getD undef = .agg #[.int .i64 lo, .int .i64 hi, .int .i64 st] := by rw [← Array.getD_eq_getD_getElem?]; exact hd 5 (by decide)
        obtain ⟨A8, cc8, d8, r8, -⟩ : ∃ A c, ac.tmps[85]?.getD undef = buV A n c S ∧ PtRow wx A n l ∧ _ := by rw [← Array.getD_eq_getD_getElem?]; exact hd 8 (by decide)
        have d10 : ac.tmps[87]?.getD undef = .int .i64 ra := by rw [← Array.getD_eq_getD_getElem?]; exact hd 10 (by decide)
        refine rstep_call (f := 55) (args := #[.agg #[.int .i64 s, .int .i64 ww, .int .i64 (tv - 1), .int .i64 en], .agg #[.int .i64 lo, .int .i64 hi, .int .i64 st], buV A8 n cc8 S, .int .i64 ra]) (by simp [Act.eval, d3, d5, d8, d10, go_sem]) ?_ rfl
        exact (HK2.out HOD.out.1) _ _ _ r8
      · intro ac wx hf hb hd -- 12
        refine .inl ⟨wanted_by (j := 2) (d := 79) (b := false) rfl rfl (hd 2 (by decide)), ?_⟩
        have d11 : ac.tmps[88]?.getD undef = .int .i64 20 := by rw [← Array.getD_eq_getD_getElem?]; exact hd 11 (by decide)
        exact rstep_eq (by simp [execOp, Act.eval, d11, go_sem]) rfl
      · intro ac wx hf hb hd -- 13
        refine .inl ⟨wanted_free rfl, ?_⟩
        have d2 : ac.tmps[79]?.getD undef = .bool false := by rw [← Array.getD_eq_getD_getElem?]; exact hd 2 (by decide)
        have d12 : ac.tmps[89]?.getD undef = .bool true := by rw [← Array.getD_eq_getD_getElem?]; exact hd 12 (by decide)
        exact rstep_eq (by simp [execOp, Act.eval, d2, d12, go_sem]) rfl
      · intro ac wx hf hb hd -- 14
        refine .inl ⟨wanted_free rfl, ?_⟩
        have d13 : ac.tmps[90]?.getD undef = .bool true := by rw [← Array.getD_eq_getD_getElem?]; exact hd 13 (by decide)
        exact rstep_eq (by simp [execOp, Act.eval, d13, go_sem]) rfl
      rintro ⟨⟨ll⟩, df⟩ w10 hf hb10 hall
      have hdf : df = [] := hf.defers
      subst hdf
      have hsz : ll.length = 91 := hf.size
      obtain ⟨x0, ll0, rfl, hsz0⟩ := cons_of hsz
      obtain ⟨x1, ll1, rfl, hsz1⟩ := cons_of hsz0
      obtain ⟨x2, ll2, rfl, hsz2⟩ := cons_of hsz1
      obtain ⟨x3, ll3, rfl, hsz3⟩ := cons_of hsz2
      obtain ⟨x4, ll4, rfl, hsz4⟩ := cons_of hsz3
      obtain ⟨x5, ll5, rfl, hsz5⟩ := cons_of hsz4
      obtain ⟨x6, ll6, rfl, hsz6⟩ := cons_of hsz5
      obtain ⟨x7, ll7, rfl, hsz7⟩ := cons_of hsz6
      obtain ⟨x8, ll8, rfl, hsz8⟩ := cons_of hsz7
      obtain ⟨x9, ll9, rfl, hsz9⟩ := cons_of hsz8
      obtain ⟨x10, ll10, rfl, hsz10⟩ := cons_of hsz9
      obtain ⟨x11, ll11, rfl, hsz11⟩ := cons_of hsz10
      obtain ⟨x12, ll12, rfl, hsz12⟩ := cons_of hsz11
      obtain ⟨x13, ll13, rfl, hsz13⟩ := cons_of hsz12
      obtain ⟨x14, ll14, rfl, hsz14⟩ := cons_of hsz13
      obtain ⟨x15, ll15, rfl, hsz15⟩ := cons_of hsz14
      obtain ⟨x16, ll16, rfl, hsz16⟩ := cons_of hsz15
      obtain ⟨x17, ll17, rfl, hsz17⟩ := cons_of hsz16
      obtain ⟨x18, ll18, rfl, hsz18⟩ := cons_of hsz17
      obtain ⟨x19, ll19, rfl, hsz19⟩ := cons_of hsz18
      obtain ⟨x20, ll20, rfl, hsz20⟩ := cons_of hsz19
      obtain ⟨x21, ll21, rfl, hsz21⟩ := cons_of hsz20
      obtain ⟨x22, ll22, rfl, hsz22⟩ := cons_of hsz21
      obtain ⟨x23, ll23, rfl, hsz23⟩ := cons_of hsz22
      obtain ⟨x24, ll24, rfl, hsz24⟩ := cons_of hsz23
      obtain ⟨x25, ll25, rfl, hsz25⟩ := cons_of hsz24
      obtain ⟨x26, ll26, rfl, hsz26⟩ := cons_of hsz25
      obtain ⟨x27, ll27, rfl, hsz27⟩ := cons_of hsz26
      obtain ⟨x28, ll28, rfl, hsz28⟩ := cons_of hsz27
      obtain ⟨x29, ll29, rfl, hsz29⟩ := cons_of hsz28
      obtain ⟨x30, ll30, rfl, hsz30⟩ := cons_of hsz29
      obtain ⟨x31, ll31, rfl, hsz31⟩ := cons_of hsz30
      obtain ⟨x32, ll32, rfl, hsz32⟩ := cons_of hsz31
      obtain ⟨x33, ll33, rfl, hsz33⟩ := cons_of hsz32
      obtain ⟨x34, ll34, rfl, hsz34⟩ := cons_of hsz33
      obtain ⟨x35, ll35, rfl, hsz35⟩ := cons_of hsz34
      obtain ⟨x36, ll36, rfl, hsz36⟩ := cons_of hsz35
      obtain ⟨x37, ll37, rfl, hsz37⟩ := cons_of hsz36
      obtain ⟨x38, ll38, rfl, hsz38⟩ := cons_of hsz37
      obtain ⟨x39, ll39, rfl, hsz39⟩ := cons_of hsz38
      obtain ⟨x40, ll40, rfl, hsz40⟩ := cons_of hsz39
      obtain ⟨x41, ll41, rfl, hsz41⟩ := cons_of hsz40
      obtain ⟨x42, ll42, rfl, hsz42⟩ := cons_of hsz41
      obtain ⟨x43, ll43, rfl, hsz43⟩ := cons_of hsz42
      obtain ⟨x44, ll44, rfl, hsz44⟩ := cons_of hsz43
      obtain ⟨x45, ll45, rfl, hsz45⟩ := cons_of hsz44
      obtain ⟨x46, ll46, rfl, hsz46⟩ := cons_of hsz45
      obtain ⟨x47, ll47, rfl, hsz47⟩ := cons_of hsz46
      obtain ⟨x48, ll48, rfl, hsz48⟩ := cons_of hsz47
      obtain ⟨x49, ll49, rfl, hsz49⟩ := cons_of hsz48
      obtain ⟨x50, ll50, rfl, hsz50⟩ := cons_of hsz49
      obtain ⟨x51, ll51, rfl, hsz51⟩ := cons_of hsz50
      obtain ⟨x52, ll52, rfl, hsz52⟩ := cons_of hsz51
      obtain ⟨x53, ll53, rfl, hsz53⟩ := cons_of hsz52
      obtain ⟨x54, ll54, rfl, hsz54⟩ := cons_of hsz53
      obtain ⟨x55, ll55, rfl, hsz55⟩ := cons_of hsz54
      obtain ⟨x56, ll56, rfl, hsz56⟩ := cons_of hsz55
      obtain ⟨x57, ll57, rfl, hsz57⟩ := cons_of hsz56
      obtain ⟨x58, ll58, rfl, hsz58⟩ := cons_of hsz57
      obtain ⟨x59, ll59, rfl, hsz59⟩ := cons_of hsz58
      obtain ⟨x60, ll60, rfl, hsz60⟩ := cons_of hsz59
      obtain ⟨x61, ll61, rfl, hsz61⟩ := cons_of hsz60
      obtain ⟨x62, ll62, rfl, hsz62⟩ := cons_of hsz61
      obtain ⟨x63, ll63, rfl, hsz63⟩ := cons_of hsz62
      obtain ⟨x64, ll64, rfl, hsz64⟩ := cons_of hsz63
      obtain ⟨x65, ll65, rfl, hsz65⟩ := cons_of hsz64
      obtain ⟨x66, ll66, rfl, hsz66⟩ := cons_of hsz65
      obtain ⟨x67, ll67, rfl, hsz67⟩ := cons_of hsz66
      obtain ⟨x68, ll68, rfl, hsz68⟩ := cons_of hsz67
      obtain ⟨x69, ll69, rfl, hsz69⟩ := cons_of hsz68
      obtain ⟨x70, ll70, rfl, hsz70⟩ := cons_of hsz69
      obtain ⟨x71, ll71, rfl, hsz71⟩ := cons_of hsz70
      obtain ⟨x72, ll72, rfl, hsz72⟩ := cons_of hsz71
      obtain ⟨x73, ll73, rfl, hsz73⟩ := cons_of hsz72
      obtain ⟨x74, ll74, rfl, hsz74⟩ := cons_of hsz73
      obtain ⟨x75, ll75, rfl, hsz75⟩ := cons_of hsz74
      obtain ⟨x76, ll76, rfl, hsz76⟩ := cons_of hsz75
      obtain ⟨x77, ll77, rfl, hsz77⟩ := cons_of hsz76
      obtain ⟨x78, ll78, rfl, hsz78⟩ := cons_of hsz77
      obtain ⟨x79, ll79, rfl, hsz79⟩ := cons_of hsz78
      obtain ⟨x80, ll80, rfl, hsz80⟩ := cons_of hsz79
      obtain ⟨x81, ll81, rfl, hsz81⟩ := cons_of hsz80
      obtain ⟨x82, ll82, rfl, hsz82⟩ := cons_of hsz81
      obtain ⟨x83, ll83, rfl, hsz83⟩ := cons_of hsz82
      obtain ⟨x84, ll84, rfl, hsz84⟩ := cons_of hsz83
      obtain ⟨x85, ll85, rfl, hsz85⟩ := cons_of hsz84
      obtain ⟨x86, ll86, rfl, hsz86⟩ := cons_of hsz85
      obtain ⟨x87, ll87, rfl, hsz87⟩ := cons_of hsz86
      obtain ⟨x88, ll88, rfl, hsz88⟩ := cons_of hsz87
      obtain ⟨x89, ll89, rfl, hsz89⟩ := cons_of hsz88
      obtain ⟨x90, ll90, rfl, hsz90⟩ := cons_of hsz89
      obtain rfl := List.eq_nil_of_length_eq_zero hsz90
      obtain rfl : x0 = .agg #[.int .i64 s, .int .i64 ww, .int .i64 t, .int .i64 en] := hf.same 0 (by decide)
      obtain rfl : x1 = .agg #[.int .i64 lo, .int .i64 hi, .int .i64 st, .slice A n c, .int .i64 S, .int .i64 ra] := hf.same 1 (by decide)
      obtain rfl : x2 = .pointer (some ⟨w.heap.size, 0, none⟩) := hf.same 2 (by decide)
      obtain rfl : x3 = .pointer (some ⟨w.heap.size + 1, 0, none⟩) := hf.same 3 (by decide)
      obtain rfl : x4 = .bool true := hall 14 4 rfl
      obtain rfl : x5 = .int .i64 tv := hf.same 5 (by decide)
      obtain rfl : x6 = .int .i64 0 := hf.same 6 (by decide)
      obtain rfl : x7 = .int .i64 0 := hf.same 7 (by decide)
      obtain rfl : x8 = .int .i64 tv := hf.same 8 (by decide)
      obtain rfl : x77 = .int .i64 tv := hall 0 77 rfl
      obtain rfl : x78 = .bool false := hall 1 78 rfl
      obtain rfl : x79 = .bool false := hall 2 79 rfl
      obtain rfl : x80 = .agg #[.int .i64 s, .int .i64 ww, .int .i64 (tv - 1), .int .i64 en] := hall 3 80 rfl
      obtain rfl : x81 = .pointer (some ⟨w.heap.size + 1, 0, none⟩) := hall 4 81 rfl
      obtain rfl : x82 = .agg #[.int .i64 lo, .int .i64 hi, .int .i64 st] := hall 5 82 rfl
      obtain rfl : x83 = .pointer (some ⟨w.heap.size + 1, 3, none⟩) := hall 6 83 rfl
      obtain rfl : x84 = .agg #[.slice A n c, .int .i64 S] := hall 7 84 rfl
      obtain rfl : x86 = .pointer (some ⟨w.heap.size + 1, 5, none⟩) := hall 9 86 rfl
      obtain rfl : x87 = .int .i64 ra := hall 10 87 rfl
      obtain rfl : x88 = .int .i64 20 := hall 11 88 rfl
      obtain rfl : x89 = .bool true := hall 12 89 rfl
      obtain rfl : x90 = .bool true := hall 13 90 rfl
      clear hall hf
      clear hsz hsz0 hsz1 hsz2 hsz3 hsz4 hsz5 hsz6 hsz7 hsz8 hsz9 hsz10 hsz11 hsz12 hsz13 hsz14 hsz15 hsz16 hsz17 hsz18 hsz19 hsz20 hsz21 hsz22 hsz23 hsz24 hsz25 hsz26 hsz27 hsz28 hsz29 hsz30 hsz31 hsz32 hsz33 hsz34 hsz35 hsz36 hsz37 hsz38 hsz39 hsz40 hsz41 hsz42 hsz43 hsz44 hsz45 hsz46 hsz47 hsz48 hsz49 hsz50 hsz51 hsz52 hsz53 hsz54 hsz55 hsz56 hsz57 hsz58 hsz59 hsz60 hsz61 hsz62 hsz63 hsz64 hsz65 hsz66 hsz67 hsz68 hsz69 hsz70 hsz71 hsz72 hsz73 hsz74 hsz75 hsz76 hsz77 hsz78 hsz79 hsz80 hsz81 hsz82 hsz83 hsz84 hsz85 hsz86 hsz87 hsz88 hsz89 hsz90
      go_wp2
      go_ret
      exact ⟨rfl, HW9.out.trans (hb10.mono HW9.out.size)⟩
theorem thick_walk (b : Bm) (x : Wd) (A : Option Addr) (n c : Nat) (S : Int) (l : List Pt) (ra : Int) (hn : n ≤ maxLen) (w : World) (h : PtRow w A n l) :
    Calls Try.prog 11 #[bmV b, shV x A n c S ra] w fun e w' => e = .returned (.bool true) ∧ Below w.heap.size w w' := by
  by_cases h12 : 12 < n
  · obtain ⟨s, ww, t, en⟩ := b
    obtain ⟨lo, hi, st⟩ := x
    exact thick_many h12 w
  have h12' : n ≤ 12 := by omega
  obtain ⟨k, hk⟩ := frst_ex (thkQ b x l S ra)
  have LT : ∀ A c wx, PtRow wx A n l → Calls Try.prog 58 #[bmV b, wdV x, buV A n c S, .int .i64 ra] wx fun e w' => e = .returned (thkV (hldE b x l S ra) k) ∧ Below wx.heap.size wx w' := fun A c wx h => leastThick_any hk wx h hn
  have CK : ∀ wx, Below w.heap.size w wx → Calls Try.prog 56 #[bmV b, shV x A n c S ra] wx fun e w' => e = .returned (.int .i64 (hldE b x l S ra)) ∧ Below wx.heap.size wx w' := fun wx hx => check_any hn wx (h.below hx)
  by_cases he : hldE b x l S ra = 0
  · obtain ⟨⟨hb, hl⟩, hx, r0, r1⟩ := hldE_ok.1 he
    have RL := fun wx (hw : Below w.heap.size w wx) => rleastThick_any (c := c) hk hb hl hx r0 r1 wx (h.below hw)
    rw [he] at LT CK
    have k3 := hk.1
    by_cases hk3 : k = 300
    · have hkd : (k == 300) = true := by simpa using hk3
      rw [hkd] at RL
      have hv : thkV 0 k = .tuple #[.int .i64 0, .int .i64 12] := by unfold thkV; rw [hkd]; rfl
      rw [hv] at LT
      obtain ⟨s, ww, t, en⟩ := b
      obtain ⟨lo, hi, st⟩ := x
      exact thick_law h12' LT w CK (fun _ => RL) (fun _ h => absurd rfl h) (fun _ h => absurd rfl h) (.inr (.inl ⟨rfl, rfl, rfl, rfl⟩)) h
    · have hkd : (k == 300) = false := by simpa using hk3
      rw [hkd] at RL
      have hv : thkV 0 k = .tuple #[.int .i64 (1 + (k : Int)), .int .i64 0] := by unfold thkV; rw [hkd]; rfl
      rw [hv] at LT
      have hq := hk.2.2 (by omega)
      have K1 : ∀ A c wx, PtRow wx A n l → Calls Try.prog 55 #[bmV (bT b (1 + (k : Int))), wdV x, buV A n c S, .int .i64 ra] wx fun e w' => e = .returned (.int .i64 0) ∧ Below wx.heap.size wx w' := fun A c wx hX => by
        have hbt := bmok_bT (m := 1 + (k : Int)) hb (by omega) (by omega)
        have q := holds_any (b := bT b (1 + (k : Int))) (x := x) (c := c) (S := S) (r := ra) wx hX hn
        rw [hldA_ok (hldE_ok.2 ⟨⟨hbt, hl⟩, hx, r0, r1⟩), show hldB (bT b (1 + (k : Int))) x l S ra = true from hq] at q
        exact q
      have K2 : 1 + (k : Int) ≠ 1 → ∀ A c wx, PtRow wx A n l → Calls Try.prog 55 #[bmV (bT b (1 + (k : Int) - 1)), wdV x, buV A n c S, .int .i64 ra] wx fun e w' => e = .returned (.int .i64 20) ∧ Below wx.heap.size wx w' := fun h1 A c wx hX => by
        have hbt := bmok_bT (m := 1 + (k : Int) - 1) hb (by omega) (by omega)
        have hq2 : hldB (bT b (1 + (k : Int) - 1)) x l S ra = false := by
          have := hk.2.1 (k - 1) (by omega)
          unfold thkQ at this
          rw [show 1 + ((k - 1 : Nat) : Int) = 1 + (k : Int) - 1 by omega] at this
          exact this
        have q := holds_any (b := bT b (1 + (k : Int) - 1)) (x := x) (c := c) (S := S) (r := ra) wx hX hn
        rw [hldA_ok (hldE_ok.2 ⟨⟨hbt, hl⟩, hx, r0, r1⟩), hq2] at q
        exact q
      obtain ⟨s, ww, t, en⟩ := b
      obtain ⟨lo, hi, st⟩ := x
      exact thick_law h12' LT w CK (fun _ => RL) (fun _ _ => K1) (fun _ _ => K2) (.inr (.inr ⟨rfl, by show (1 + (k : Int)) ≠ 0; omega, rfl, rfl, by omega, by omega⟩)) h
  · have hd : (hldE b x l S ra == 0) = false := by simpa using he
    have hv : thkV (hldE b x l S ra) k = .tuple #[.int .i64 0, .int .i64 (hldE b x l S ra)] := by unfold thkV; rw [hd]; rfl
    rw [hv] at LT
    obtain ⟨s, ww, t, en⟩ := b
    obtain ⟨lo, hi, st⟩ := x
    exact thick_law (wt := 0) h12' LT w CK (fun h => absurd h he) (fun h => absurd h he) (fun h => absurd h he) (.inl ⟨he, rfl, rfl⟩) h
end Go.Proofs.Ytablphoicidlkaa
