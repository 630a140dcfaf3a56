/- Walks over beams: the greatest moment and sag. -/
import Derived.Test.YtablphoicidlkaaSL
namespace Go.Proofs.Ytablphoicidlkaa
open Go.RowKit

abbrev MOut' := MtOut
abbrev SOut' := SgOut
theorem mom_bd9 {b : Bm} {l : List Pt} {S x : Int} (hb : BmOk b) (hl : WtOk b.s l S) (x0 : 0 ≤ x) (x1 : x ≤ b.s) : (mom b l S x).natAbs ≤ 9000000000000000000 := Nat.le_trans (mom_bds hb hl x0 x1).2.2 (by decide)
set_option maxHeartbeats 1000000 in
theorem cloM_any {b : Bm} {A : Option Addr} {n c k B1 B2 : Nat} {S : Int} {l : List Pt} (hb : BmOk b) (hl : WtOk b.s l S) (hk : (k : Int) ≤ b.s) (w : World) (h : PtRow w A n l)
    (c0 : w.cell? ⟨B1, 0, none⟩ = some (.int .i64 b.s)) (c1 : w.cell? ⟨B1, 1, none⟩ = some (.int .i64 b.w)) (c2 : w.cell? ⟨B1, 2, none⟩ = some (.int .i64 b.t)) (c3 : w.cell? ⟨B1, 3, none⟩ = some (.int .i64 b.e)) (c4 : w.cell? ⟨B2, 0, none⟩ = some (.slice A n c)) (c5 : w.cell? ⟨B2, 1, none⟩ = some (.int .i64 S)) :
    Calls Try.prog 147 #[.int .i64 k, .pointer (some ⟨B1, 0, none⟩), .pointer (some ⟨B2, 0, none⟩)] w fun e w' => ∃ (A : Option Addr) (m c : Nat) (zs : List Int), e = .returned (.slice A m c) ∧ IntRow w' A m zs ∧ m ≤ 1000 ∧ sumL id zs = mom b l S k ∧ Below w.heap.size w w' := by
  have MT := Lib.hid (momentTerms_any (c := c) hb hl (x := (k : Int)) (by omega) hk w h)
  have hbv : bmV b = .agg #[.int .i64 b.s, .int .i64 b.w, .int .i64 b.t, .int .i64 b.e] := rfl
  unfold buV at MT
  rw [hbv] at MT
  clear hbv h hl hb hk
  have HOUT : Hid (∀ e w', MOut' b l S k w e w' → ∃ (A : Option Addr) (m c : Nat) (zs : List Int), e = .returned (.slice A m c) ∧ IntRow w' A m zs ∧ m ≤ 1000 ∧ sumL id zs = mom b l S k ∧ Below w.heap.size w w') := Lib.hid (fun _ _ h => h)
  generalize b.s = ss at *
  generalize b.w = ww at *
  generalize b.t = tt at *
  generalize b.e = en at *
  go_enter Try.func147, Try.ntmps147
  go_wp2_with (go_at_call 145; (refine Calls.mono MT.out ?_); rintro e w1 ⟨A1, m1, c1', zs1, rfl, hr1, hm1, hs1, hb1⟩; have HX := Lib.hid (And.intro hr1 (And.intro hm1 (And.intro hs1 hb1))); clear hr1 hm1 hs1 hb1)
  go_ret
  exact ⟨A1, m1, c1', zs1, rfl, HX.out.1, HX.out.2.1, HX.out.2.2.1, HX.out.2.2.2⟩
def gM (b : Bm) (l : List Pt) (S : Int) : Nat × Int := grP (fun k : Nat => mom b l S k) (b.s.toNat + 1)
set_option maxHeartbeats 1000000 in
theorem greatestMoment_any {b : Bm} {A : Option Addr} {n c : Nat} {S : Int} {l : List Pt} (hb : BmOk b) (hl : WtOk b.s l S) (w : World) (h : PtRow w A n l) :
    Calls Try.prog 102 #[bmV b, buV A n c S] w fun e w' => e = .returned (.tuple #[.int .i64 ((gM b l S).1 : Nat), .int .i64 (gM b l S).2]) ∧ Below w.heap.size w w' := by
  obtain ⟨s, ww, t, en⟩ := b
  have hs0 := hb.s0; have hs1 := hb.s1
  simp only at hs0 hs1 hl
  obtain ⟨N, rfl⟩ : ∃ N : Nat, s = (N : Int) := ⟨s.toNat, by omega⟩
  unfold gM
  simp only [Int.toNat_natCast]
  have HBD := Lib.hid (fun (k : Nat) (hk : k < N + 1) => (show (mom ⟨N, ww, t, en⟩ l S (k : Int)).natAbs ≤ 9000000000000000000 from mom_bd9 hb hl (by omega) (by simp only; omega)))
  have HB0 : Below w.heap.size w ((w.alloc (.cells #[.int .i64 (N : Int), .int .i64 ww, .int .i64 t, .int .i64 en] 23)).alloc (.cells #[.slice A n c, .int .i64 S] 26)) := ((Below.refl _ _).alloc (Nat.le_refl _) _).alloc (by simp) _
  have HF := Lib.hid (fun (wx : World) (k : Nat) (hk : k ≤ N) (hx : Below ((w.alloc (.cells #[.int .i64 (N : Int), .int .i64 ww, .int .i64 t, .int .i64 en] 23)).alloc (.cells #[.slice A n c, .int .i64 S] 26)).heap.size ((w.alloc (.cells #[.int .i64 (N : Int), .int .i64 ww, .int .i64 t, .int .i64 en] 23)).alloc (.cells #[.slice A n c, .int .i64 S] 26)) wx) => (cloM_any (b := ⟨N, ww, t, en⟩) (A := A) (n := n) (c := c) (k := k) (B1 := w.heap.size) (B2 := w.heap.size + 1) (S := S) (l := l) hb hl (by simp only; omega) wx (h.below (HB0.trans (hx.mono HB0.size)))
    (((bcell hx).1 _ _ (by simp; try omega)).trans (by simp [go_sem])) (((bcell hx).1 _ _ (by simp; try omega)).trans (by simp [go_sem])) (((bcell hx).1 _ _ (by simp; try omega)).trans (by simp [go_sem])) (((bcell hx).1 _ _ (by simp; try omega)).trans (by simp [go_sem])) (((bcell hx).1 _ _ (by simp; try omega)).trans (by simp [go_sem])) (((bcell hx).1 _ _ (by simp; try omega)).trans (by simp [go_sem]))))
  have HBB := Lib.hid HB0
  have HN : Hid (N ≤ 2000) := Lib.hid (by omega)
  clear HB0 h hl hb
  unfold bmV buV
  simp only
  obtain ⟨g, hg⟩ : ∃ g : Nat → Int, g = fun k : Nat => mom ⟨N, ww, t, en⟩ l S k := ⟨_, rfl⟩
  have HGE : Hid (∀ k : Nat, mom ⟨N, ww, t, en⟩ l S k = g k) := Lib.hid (fun k => by rw [hg])
  rw [← hg]
  clear hg
  simp only [HGE.out] at HBD HF
  obtain ⟨pp, hpp⟩ : ∃ pp, (grP g (N + 1)).1 = pp := ⟨_, rfl⟩
  obtain ⟨mm, hmm⟩ : ∃ mm, (grP g (N + 1)).2 = mm := ⟨_, rfl⟩
  have GG := Lib.hid (greatestM_any HN.out HBD.out ((w.alloc (.cells #[.int .i64 (N : Int), .int .i64 ww, .int .i64 t, .int .i64 en] 23)).alloc (.cells #[.slice A n c, .int .i64 S] 26)) HF.out)
  rw [hpp, hmm] at GG ⊢
  clear hpp hmm HBD HF
  go_enter Try.func102, Try.ntmps102
  go_wp2_with (go_at_call 146; (refine Calls.mono GG.out ?_); rintro e w1 ⟨rfl, hb1⟩)
  go_ret2
  exact ⟨rfl, HBB.out.trans (hb1.mono HBB.out.size)⟩
set_option maxHeartbeats 1000000 in
theorem cloS_any {b : Bm} {A : Option Addr} {n c k B1 B2 : Nat} {S : Int} {l : List Pt} (hb : BmOk b) (hl : WtOk b.s l S) (hk : (k : Int) ≤ b.s) (w : World) (h : PtRow w A n l)
    (c0 : w.cell? ⟨B1, 0, none⟩ = some (.int .i64 b.s)) (c1 : w.cell? ⟨B1, 1, none⟩ = some (.int .i64 b.w)) (c2 : w.cell? ⟨B1, 2, none⟩ = some (.int .i64 b.t)) (c3 : w.cell? ⟨B1, 3, none⟩ = some (.int .i64 b.e)) (c4 : w.cell? ⟨B2, 0, none⟩ = some (.slice A n c)) (c5 : w.cell? ⟨B2, 1, none⟩ = some (.int .i64 S)) :
    Calls Try.prog 149 #[.int .i64 k, .pointer (some ⟨B1, 0, none⟩), .pointer (some ⟨B2, 0, none⟩)] w fun e w' => ∃ (A : Option Addr) (m c : Nat) (zs : List Int), e = .returned (.slice A m c) ∧ IntRow w' A m zs ∧ m ≤ 1000 ∧ sumL id zs = sag b l S k ∧ Below w.heap.size w w' := by
  have MT := Lib.hid (sagTerms_any (c := c) hb hl (x := (k : Int)) (by omega) hk w h)
  have hbv : bmV b = .agg #[.int .i64 b.s, .int .i64 b.w, .int .i64 b.t, .int .i64 b.e] := rfl
  unfold buV at MT
  rw [hbv] at MT
  clear hbv h hl hb hk
  have HOUT : Hid (∀ e w', SOut' b l S k w e w' → ∃ (A : Option Addr) (m c : Nat) (zs : List Int), e = .returned (.slice A m c) ∧ IntRow w' A m zs ∧ m ≤ 1000 ∧ sumL id zs = sag b l S k ∧ Below w.heap.size w w') := Lib.hid (fun _ _ h => h)
  generalize b.s = ss at *
  generalize b.w = ww at *
  generalize b.t = tt at *
  generalize b.e = en at *
  go_enter Try.func149, Try.ntmps149
  go_wp2_with (go_at_call 148; (refine Calls.mono MT.out ?_); rintro e w1 ⟨A1, m1, c1', zs1, rfl, hr1, hm1, hs1, hb1⟩; have HX := Lib.hid (And.intro hr1 (And.intro hm1 (And.intro hs1 hb1))); clear hr1 hm1 hs1 hb1)
  go_ret
  exact ⟨A1, m1, c1', zs1, rfl, HX.out.1, HX.out.2.1, HX.out.2.2.1, HX.out.2.2.2⟩
def gS (b : Bm) (l : List Pt) (S : Int) : Nat × Int := grP (fun k : Nat => sag b l S k) (b.s.toNat + 1)
set_option maxHeartbeats 1000000 in
theorem greatestSag_any {b : Bm} {A : Option Addr} {n c : Nat} {S : Int} {l : List Pt} (hb : BmOk b) (hl : WtOk b.s l S) (w : World) (h : PtRow w A n l) :
    Calls Try.prog 106 #[bmV b, buV A n c S] w fun e w' => e = .returned (.tuple #[.int .i64 ((gS b l S).1 : Nat), .int .i64 (gS b l S).2]) ∧ Below w.heap.size w w' := by
  obtain ⟨s, ww, t, en⟩ := b
  have hs0 := hb.s0; have hs1 := hb.s1
  simp only at hs0 hs1 hl
  obtain ⟨N, rfl⟩ : ∃ N : Nat, s = (N : Int) := ⟨s.toNat, by omega⟩
  unfold gS
  simp only [Int.toNat_natCast]
  have HBD := Lib.hid (fun (k : Nat) (hk : k < N + 1) => (show (sag ⟨N, ww, t, en⟩ l S (k : Int)).natAbs ≤ 9000000000000000000 from sag_bd hb hl (by omega) (by simp only; omega)))
  have HB0 : Below w.heap.size w ((w.alloc (.cells #[.int .i64 (N : Int), .int .i64 ww, .int .i64 t, .int .i64 en] 23)).alloc (.cells #[.slice A n c, .int .i64 S] 26)) := ((Below.refl _ _).alloc (Nat.le_refl _) _).alloc (by simp) _
  have HF := Lib.hid (fun (wx : World) (k : Nat) (hk : k ≤ N) (hx : Below ((w.alloc (.cells #[.int .i64 (N : Int), .int .i64 ww, .int .i64 t, .int .i64 en] 23)).alloc (.cells #[.slice A n c, .int .i64 S] 26)).heap.size ((w.alloc (.cells #[.int .i64 (N : Int), .int .i64 ww, .int .i64 t, .int .i64 en] 23)).alloc (.cells #[.slice A n c, .int .i64 S] 26)) wx) => (cloS_any (b := ⟨N, ww, t, en⟩) (A := A) (n := n) (c := c) (k := k) (B1 := w.heap.size) (B2 := w.heap.size + 1) (S := S) (l := l) hb hl (by simp only; omega) wx (h.below (HB0.trans (hx.mono HB0.size)))
    (((bcell hx).1 _ _ (by simp; try omega)).trans (by simp [go_sem])) (((bcell hx).1 _ _ (by simp; try omega)).trans (by simp [go_sem])) (((bcell hx).1 _ _ (by simp; try omega)).trans (by simp [go_sem])) (((bcell hx).1 _ _ (by simp; try omega)).trans (by simp [go_sem])) (((bcell hx).1 _ _ (by simp; try omega)).trans (by simp [go_sem])) (((bcell hx).1 _ _ (by simp; try omega)).trans (by simp [go_sem]))))
  have HBB := Lib.hid HB0
  have HN : Hid (N ≤ 2000) := Lib.hid (by omega)
  clear HB0 h hl hb
  unfold bmV buV
  simp only
  obtain ⟨g, hg⟩ : ∃ g : Nat → Int, g = fun k : Nat => sag ⟨N, ww, t, en⟩ l S k := ⟨_, rfl⟩
  have HGE : Hid (∀ k : Nat, sag ⟨N, ww, t, en⟩ l S k = g k) := Lib.hid (fun k => by rw [hg])
  rw [← hg]
  clear hg
  simp only [HGE.out] at HBD HF
  obtain ⟨pp, hpp⟩ : ∃ pp, (grP g (N + 1)).1 = pp := ⟨_, rfl⟩
  obtain ⟨mm, hmm⟩ : ∃ mm, (grP g (N + 1)).2 = mm := ⟨_, rfl⟩
  have GG := Lib.hid (greatestS_any HN.out HBD.out ((w.alloc (.cells #[.int .i64 (N : Int), .int .i64 ww, .int .i64 t, .int .i64 en] 23)).alloc (.cells #[.slice A n c, .int .i64 S] 26)) HF.out)
  rw [hpp, hmm] at GG ⊢
  clear hpp hmm HBD HF
  go_enter Try.func106, Try.ntmps106
  go_wp2_with (go_at_call 146; (refine Calls.mono GG.out ?_); rintro e w1 ⟨rfl, hb1⟩)
  go_ret2
  exact ⟨rfl, HBB.out.trans (hb1.mono HBB.out.size)⟩
end Go.Proofs.Ytablphoicidlkaa
