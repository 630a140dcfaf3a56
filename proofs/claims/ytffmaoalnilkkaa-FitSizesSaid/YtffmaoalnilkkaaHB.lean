/- Walks over the fits: the clearance over a season; a piece alone. -/
import Derived.Test.YtffmaoalnilkkaaHA
import Derived.Test.YtffmaoalnilkkaaGM
namespace Go.Proofs.Ytffmaoalnilkkaa
open Go.RowKit Go.Maps

theorem leastS_bd {o i : List Md} {lo hi : Int} (ho : ∀ x ∈ o, MdOk x) (hi' : ∀ x ∈ i, MdOk x) (hn : o.length + i.length ≤ 20) (l0 : 0 ≤ lo) (l1 : lo ≤ 400) (h0 : 0 ≤ hi) (h1 : hi ≤ 400) : -400000000000000 ≤ leastS o i lo hi ∧ leastS o i lo hi ≤ 400000000000000 := by
  have := least_take_bd ho hi' l0 l1 h0 h1 (by omega) (by omega) (gsOf (o ++ i)).length
  rw [List.take_of_length_le (Nat.le_refl _)] at this
  unfold leastS
  omega
set_option maxHeartbeats 4000000 in
set_option maxRecDepth 20000 in
theorem clearanceOver_any {nm sn : ByteArray} {A A' : Option Addr} {n c n' c' : Nat} {le mo lo hi : Int} {o i0 : List Md} (ho : ∀ x ∈ o, MdOk x) (hi' : ∀ x ∈ i0, MdOk x) (hn : n + n' ≤ 20) (hl : -600000 ≤ le ∧ le ≤ 600000) (hm : -600000 ≤ mo ∧ mo ≤ 600000) (l0 : 0 ≤ lo) (l1 : lo ≤ 400) (h0 : 0 ≤ hi) (h1 : hi ≤ 400)
    (w : World) (hA : MdRow w A n o) (hA' : MdRow w A' n' i0) :
    Calls Try.prog 57 #[ftV nm A n c A' n' c' le mo, .agg #[.string sn, .int .i64 lo, .int .i64 hi]] w
      fun e w' => e = .returned (outV (leastS o i0 lo hi) (-(leastS i0 o lo hi))) ∧ Below w.heap.size w w' := by
  have HMD := Lib.hid (fun wx (hb : Below w.heap.size w wx) => And.intro (hA.below hb) (hA'.below hb))
  have L1 := Lib.hid (fun wx (hb : Below w.heap.size w wx) => leastOver_any (nm := nm) (sn := sn) (c := c) (c' := c') (le := le) (mo := mo) ho hi' hn l0 l1 h0 h1 wx (HMD.out wx hb).1 (HMD.out wx hb).2)
  have L2 := Lib.hid (fun wx (hb : Below w.heap.size w wx) => leastOver_any (nm := nm) (sn := sn) (c := c') (c' := c) (le := -mo) (mo := -le) hi' ho (by omega) l0 l1 h0 h1 wx (HMD.out wx hb).2 (HMD.out wx hb).1)
  have EX := fun wx => Lib.hid (exchanged_any (nm := nm) (A := A) (n := n) (c := c) (A' := A') (n' := n') (c' := c') hl hm wx)
  have b1 := leastS_bd ho hi' (by have := hA.1; have := hA'.1; omega) l0 l1 h0 h1
  have b2 := leastS_bd hi' ho (by have := hA.1; have := hA'.1; omega) l0 l1 h0 h1
  have hB0 : Below w.heap.size w ((w.alloc (.cells #[.string nm, .slice A n c, .slice A' n' c', .int .i64 le, .int .i64 mo] 37)).alloc (.cells #[.string sn, .int .i64 lo, .int .i64 hi] 46)) := ((Below.refl _ _).alloc (Nat.le_refl _) _).alloc (by simp) _
  clear hA hA' ho hi' hl hm
  obtain ⟨u, hu⟩ : ∃ u, leastS o i0 lo hi = u := ⟨_, rfl⟩
  obtain ⟨v, hv⟩ : ∃ v, leastS i0 o lo hi = v := ⟨_, rfl⟩
  simp only [hu] at L1 b1 ⊢
  simp only [hv] at L2 b2 ⊢
  clear hu hv
  have hw1 : wrap64 (-v) = -v := w64 (by omega)
  have hw2 : IntKind.i64.wrap (-v) = -v := by rw [IntKind.wrap_i64]; omega
  have OW := fun wx => Lib.hid (outward_any (a := u) (b := -v) (by omega) (by omega) wx)
  unfold ftV at EX ⊢
  unfold outV at OW ⊢
  obtain ⟨x, hx⟩ : ∃ x, u / 1000000 = x := ⟨_, rfl⟩
  obtain ⟨y, hy⟩ : ∃ y, upM (-v) = y := ⟨_, rfl⟩
  simp only [hx, hy] at OW ⊢
  clear hx hy
  go_enter Try.func57, Try.ntmps57
  go_upto_region 1 with fail
  have hr0 : ∀ wx, Below (w.heap.size + 1 + 1) (((w.alloc (.cells #[.string nm, .slice A n c, .slice A' n' c', .int .i64 le, .int .i64 mo] 37)).alloc (.cells #[.string sn, .int .i64 lo, .int .i64 hi] 46)).alloc (.cells #[.int .i64 0, .int .i64 0] 48)) wx → True := fun _ _ => trivial
  generalize hW0 : (((w.alloc (.cells #[.string nm, .slice A n c, .slice A' n' c', .int .i64 le, .int .i64 mo] 37)).alloc (.cells #[.string sn, .int .i64 lo, .int .i64 hi] 46)).alloc (.cells #[.int .i64 0, .int .i64 0] 48)) = W0 at ⊢
  have hs0 : W0.heap.size = w.heap.size + 3 := by rw [← hW0]; simp
  have HB0 : Hid (Below w.heap.size w W0) := Lib.hid (by rw [← hW0]; exact hB0.alloc (by simp; omega) _)
  have hq : ∀ j (hj : j < 5), W0.cell? ⟨w.heap.size, j, none⟩ = #[Value.string nm, .slice A n c, .slice A' n' c', .int .i64 le, .int .i64 mo][j]? := by
    intro j hj; rw [← hW0]; simp [go_sem]
  have hqs : ∀ j (hj : j < 3), W0.cell? ⟨w.heap.size + 1, j, none⟩ = #[Value.string sn, .int .i64 lo, .int .i64 hi][j]? := by
    intro j hj; rw [← hW0]; simp [go_sem]
  have hqr : ∀ j (hj : j < 2), W0.cell? ⟨w.heap.size + 1 + 1, j, none⟩ = #[Value.int .i64 0, .int .i64 0][j]? := by
    intro j hj; rw [← hW0]; simp [go_sem]
  have hqf : ∀ j (hj : j < 2), W0.frozen? ⟨w.heap.size + 1 + 1, j, none⟩ = false := by
    intro j hj; rw [← hW0]; simp [go_sem]
  clear hW0 hr0 hB0
  have KS := Lib.hid (fun wx (hb : Below W0.heap.size W0 wx) => (show Below W0.heap.size W0 wx ∧ wx.cell? ⟨w.heap.size, 0, none⟩ = some (.string nm) ∧ wx.cell? ⟨w.heap.size, 0 + 1, none⟩ = some (.slice A n c) ∧ wx.cell? ⟨w.heap.size, 0 + 2, none⟩ = some (.slice A' n' c') ∧ wx.cell? ⟨w.heap.size, 0 + 3, none⟩ = some (.int .i64 le) ∧ wx.cell? ⟨w.heap.size, 0 + 4, none⟩ = some (.int .i64 mo) ∧ wx.cell? ⟨w.heap.size + 1, 0, none⟩ = some (.string sn) ∧ wx.cell? ⟨w.heap.size + 1, 0 + 1, none⟩ = some (.int .i64 lo) ∧ wx.cell? ⟨w.heap.size + 1, 0 + 2, none⟩ = some (.int .i64 hi) from by
    have k := (bcell hb).1
    exact ⟨hb, (k _ _ (by omega)).trans (hq 0 (by omega)), (k _ _ (by omega)).trans (hq 1 (by omega)), (k _ _ (by omega)).trans (hq 2 (by omega)), (k _ _ (by omega)).trans (hq 3 (by omega)), (k _ _ (by omega)).trans (hq 4 (by omega)), (k _ _ (by omega)).trans (hqs 0 (by omega)), (k _ _ (by omega)).trans (hqs 1 (by omega)), (k _ _ (by omega)).trans (hqs 2 (by omega))⟩))
  have KR := Lib.hid (fun wx (hb : Below W0.heap.size W0 wx) => (show wx.cell? ⟨w.heap.size + 1 + 1, 0, none⟩ = some (.int .i64 0) ∧ wx.cell? ⟨w.heap.size + 1 + 1, 1, none⟩ = some (.int .i64 0) ∧ wx.frozen? ⟨w.heap.size + 1 + 1, 0, none⟩ = false ∧ wx.frozen? ⟨w.heap.size + 1 + 1, 1, none⟩ = false from by
    obtain ⟨k, kf⟩ := bcell hb
    exact ⟨(k _ _ (by omega)).trans (hqr 0 (by omega)), (k _ _ (by omega)).trans (hqr 1 (by omega)), (kf _ _ (by omega)).trans (hqf 0 (by omega)), (kf _ _ (by omega)).trans (hqf 1 (by omega))⟩))
  have HS0 := Lib.hid hs0
  clear hq hqs hqr hqf hs0
  obtain ⟨-, e0, e1, e2, e3, e4, e5, e6, e7⟩ := KS.out W0 (Below.refl _ _)
  have LW := Lib.hid (fun wx (hb : Below W0.heap.size W0 wx) => (show Below w.heap.size w wx from HB0.out.trans (hb.mono HB0.out.size)))
  go_upto_region 2 with (go_at_call 82; refine Calls.mono (L1.out _ HB0.out) ?_; rintro e w1 ⟨v1, rfl, -, hb1⟩)
  clear e0 e1 e2 e3 e4 e5 e6 e7
  have HB1 := Lib.hid hb1
  have hb1r := (KS.out w1 hb1)
  obtain ⟨-, e0, e1, e2, e3, e4, e5, e6, e7⟩ := KS.out w1 hb1
  clear hb1 hb1r
  have D1 := Lib.hid ((HB1.out).drew)
  go_region_held3 (fun wx => Below W0.heap.size W0 wx ∧ wx.cell? ⟨w.heap.size, 0, none⟩ = some (.string nm) ∧ wx.cell? ⟨w.heap.size, 0 + 1, none⟩ = some (.slice A n c) ∧ wx.cell? ⟨w.heap.size, 0 + 2, none⟩ = some (.slice A' n' c') ∧ wx.cell? ⟨w.heap.size, 0 + 3, none⟩ = some (.int .i64 le) ∧ wx.cell? ⟨w.heap.size, 0 + 4, none⟩ = some (.int .i64 mo) ∧ wx.cell? ⟨w.heap.size + 1, 0, none⟩ = some (.string sn) ∧ wx.cell? ⟨w.heap.size + 1, 0 + 1, none⟩ = some (.int .i64 lo) ∧ wx.cell? ⟨w.heap.size + 1, 0 + 2, none⟩ = some (.int .i64 hi)) (first | assumption | (exact KS.out _ D1.out) | (exact KS.out _ (Below.trans (And.left (by assumption)) (Below.mono hbx (Below.size (And.left (by assumption))))))) (first | (go_at_call 81; refine Calls.mono (EX _).out ?_; rintro e wa ⟨rfl, hbx⟩) | (go_at_call 82; refine Calls.mono (L2.out _ (LW.out _ (And.left (by assumption)))) ?_; rintro e wb ⟨v2, rfl, -, hbx⟩))
  all_goals
    have HBX := Lib.hid (And.left (by assumption) : Below W0.heap.size W0 wb)
    obtain ⟨r0, r1, g0, g1⟩ := KR.out wb HBX.out
    clear e0 e1 e2 e3 e4 e5 e6 e7
    go_wp2_with (go_at_call 79; refine Calls.mono (OW _).out ?_; rintro e wc ⟨rfl, hbc⟩; obtain ⟨z0, z1, y0, y1⟩ := KR.out wc (HBX.out.trans (hbc.mono HBX.out.size)))
    refine bodyPost_ret (v := .agg #[.int .i64 x, .int .i64 y]) (by simp [results, Try.results57, go_sem, z0, z1]) rfl ⟨rfl, ?_⟩
    repeat (refine Below.setCell ?_ (by first | (simp; done) | (simp; omega)) _)
    exact LW.out _ (HBX.out.trans (hbc.mono HBX.out.size))
end Go.Proofs.Ytffmaoalnilkkaa
