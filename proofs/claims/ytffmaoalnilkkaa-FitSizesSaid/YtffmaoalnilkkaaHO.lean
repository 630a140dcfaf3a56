/- Walks over the fits: the clearance at the moistures of a map. -/
import Derived.Test.YtffmaoalnilkkaaHN
import Derived.Test.YtffmaoalnilkkaaHB
namespace Go.Proofs.Ytffmaoalnilkkaa
open Go.RowKit Go.Maps

theorem leastAtS_bd {tf : Int → Int} {o i : List Md} (ho : ∀ x ∈ o, MdOk x) (hi : ∀ x ∈ i, MdOk x) (hn : o.length + i.length ≤ 20) (HT : ∀ g, 0 ≤ tf g ∧ tf g ≤ 400) : -400000000000000 ≤ leastAtS tf o i ∧ leastAtS tf o i ≤ 400000000000000 := by
  have h1 := gsOf_length (o ++ i)
  have := sumL_bd (B := 20000000000000) (f := fun g => share (tf g) o i g) (l := gsOf (o ++ i)) (fun g _ => share_bd ho hi (HT g).1 (HT g).2 (by omega) (by omega))
  unfold leastAtS
  omega
set_option maxHeartbeats 4000000 in
set_option maxRecDepth 20000 in
theorem clearanceAt_any {nm : ByteArray} {A A' : Option Addr} {n c n' c' : Nat} {le mo : Int} {o i0 : List Md} {mb mn : Nat} {DM : DataW Unit} {tf : Int → Int} (HT : Hid (∀ g, 0 ≤ tf g ∧ tf g ≤ 400)) (HD : Hid (∀ g, DM.atKey (intL g) (.lit (.int .i64 0)) = .lit (.int .i64 (tf g)))) (ho : ∀ x ∈ o, MdOk x) (hi' : ∀ x ∈ i0, MdOk x) (hn : n + n' ≤ 20) (hl : -600000 ≤ le ∧ le ≤ 600000) (hm : -600000 ≤ mo ∧ mo ≤ 600000)
    (w : World) (hM : w.ownsMap Try.prog 3 (plainElem Try.prog 3) mb mn DM) (hA : MdRow w A n o) (hA' : MdRow w A' n' i0) :
    Calls Try.prog 55 #[ftV nm A n c A' n' c' le mo, .map (some mb)] w
      fun e w' => e = .returned (outV (leastAtS tf o i0) (-(leastAtS tf i0 o))) ∧ Below w.heap.size w w' := by
  have HMD := Lib.hid (fun wx (hb : Below w.heap.size w wx) => And.intro (hM.kept (below_grown hb none) (by simp)) (And.intro (hA.below hb) (hA'.below hb)))
  have L1 := Lib.hid (fun wx (hb : Below w.heap.size w wx) => leastAt_any (nm := nm) (c := c) (c' := c') (le := le) (mo := mo) HT HD ho hi' hn wx (HMD.out wx hb).1 (HMD.out wx hb).2.1 (HMD.out wx hb).2.2)
  have L2 := Lib.hid (fun wx (hb : Below w.heap.size w wx) => leastAt_any (nm := nm) (c := c') (c' := c) (le := -mo) (mo := -le) HT HD hi' ho (by omega) wx (HMD.out wx hb).1 (HMD.out wx hb).2.2 (HMD.out wx hb).2.1)
  have EX := fun wx => Lib.hid (exchanged_any (nm := nm) (A := A) (n := n) (c := c) (A' := A') (n' := n') (c' := c') hl hm wx)
  have b1 := leastAtS_bd ho hi' (by have := hA.1; have := hA'.1; omega) HT.out
  have b2 := leastAtS_bd hi' ho (by have := hA.1; have := hA'.1; omega) HT.out
  have hB0 : Below w.heap.size w ((w.alloc (.cells #[.string nm, .slice A n c, .slice A' n' c', .int .i64 le, .int .i64 mo] 37)).alloc (.cells #[.int .i64 0, .int .i64 0] 48)) := ((Below.refl _ _).alloc (Nat.le_refl _) _).alloc (by simp) _
  clear hM hA hA' ho hi' hl hm HT HD
  obtain ⟨u, hu⟩ : ∃ u, leastAtS tf o i0 = u := ⟨_, rfl⟩
  obtain ⟨v, hv⟩ : ∃ v, leastAtS tf i0 o = v := ⟨_, rfl⟩
  simp only [hu] at L1 b1 ⊢
  simp only [hv] at L2 b2 ⊢
  clear hu hv
  have hw1 : wrap64 (-v) = -v := w64 (by omega)
  have hw2 : IntKind.i64.wrap (-v) = -v := by rw [IntKind.wrap_i64]; omega
  have OW := fun wx => Lib.hid (outward_any (a := u) (b := -v) (by omega) (by omega) wx)
  unfold ftV at EX ⊢
  unfold outV at OW ⊢
  obtain ⟨x, hx⟩ : ∃ x, u / 1000000 = x := ⟨_, rfl⟩
  obtain ⟨y, hy⟩ : ∃ y, upM (-v) = y := ⟨_, rfl⟩
  simp only [hx, hy] at OW ⊢
  clear hx hy
  go_enter Try.func55, Try.ntmps55
  go_upto_region 1 with fail
  have hs0 : ((w.alloc (.cells #[.string nm, .slice A n c, .slice A' n' c', .int .i64 le, .int .i64 mo] 37)).alloc (.cells #[.int .i64 0, .int .i64 0] 48)).heap.size = w.heap.size + 2 := by simp
  have hq : ∀ j (hj : j < 5), ((w.alloc (.cells #[.string nm, .slice A n c, .slice A' n' c', .int .i64 le, .int .i64 mo] 37)).alloc (.cells #[.int .i64 0, .int .i64 0] 48)).cell? ⟨w.heap.size, j, none⟩ = #[Value.string nm, .slice A n c, .slice A' n' c', .int .i64 le, .int .i64 mo][j]? := by
    intro j hj; simp [go_sem]
  have hqr : ∀ j (hj : j < 2), ((w.alloc (.cells #[.string nm, .slice A n c, .slice A' n' c', .int .i64 le, .int .i64 mo] 37)).alloc (.cells #[.int .i64 0, .int .i64 0] 48)).cell? ⟨w.heap.size + 1, j, none⟩ = #[Value.int .i64 0, .int .i64 0][j]? := by
    intro j hj; simp [go_sem]
  have hqf : ∀ j (hj : j < 2), ((w.alloc (.cells #[.string nm, .slice A n c, .slice A' n' c', .int .i64 le, .int .i64 mo] 37)).alloc (.cells #[.int .i64 0, .int .i64 0] 48)).frozen? ⟨w.heap.size + 1, j, none⟩ = false := by
    intro j hj; simp [go_sem]
  generalize ((w.alloc (.cells #[.string nm, .slice A n c, .slice A' n' c', .int .i64 le, .int .i64 mo] 37)).alloc (.cells #[.int .i64 0, .int .i64 0] 48)) = W0 at hB0 hs0 hq hqr hqf ⊢
  have HB0 := Lib.hid hB0
  have KS := Lib.hid (fun wx (hb : Below W0.heap.size W0 wx) => (show wx.cell? ⟨w.heap.size, 0, none⟩ = some (.string nm) ∧ wx.cell? ⟨w.heap.size, 0 + 1, none⟩ = some (.slice A n c) ∧ wx.cell? ⟨w.heap.size, 0 + 2, none⟩ = some (.slice A' n' c') ∧ wx.cell? ⟨w.heap.size, 0 + 3, none⟩ = some (.int .i64 le) ∧ wx.cell? ⟨w.heap.size, 0 + 4, none⟩ = some (.int .i64 mo) from by
    have k := (bcell hb).1
    exact ⟨(k _ _ (by omega)).trans (hq 0 (by omega)), (k _ _ (by omega)).trans (hq 1 (by omega)), (k _ _ (by omega)).trans (hq 2 (by omega)), (k _ _ (by omega)).trans (hq 3 (by omega)), (k _ _ (by omega)).trans (hq 4 (by omega))⟩))
  have KR := Lib.hid (fun wx (hb : Below W0.heap.size W0 wx) => (show wx.cell? ⟨w.heap.size + 1, 0, none⟩ = some (.int .i64 0) ∧ wx.cell? ⟨w.heap.size + 1, 1, none⟩ = some (.int .i64 0) ∧ wx.frozen? ⟨w.heap.size + 1, 0, none⟩ = false ∧ wx.frozen? ⟨w.heap.size + 1, 1, none⟩ = false from by
    obtain ⟨k, kf⟩ := bcell hb
    exact ⟨(k _ _ (by omega)).trans (hqr 0 (by omega)), (k _ _ (by omega)).trans (hqr 1 (by omega)), (kf _ _ (by omega)).trans (hqf 0 (by omega)), (kf _ _ (by omega)).trans (hqf 1 (by omega))⟩))
  have LW := Lib.hid (fun wx (hb : Below W0.heap.size W0 wx) => (show Below w.heap.size w wx from HB0.out.trans (hb.mono HB0.out.size)))
  have HD0 := Lib.hid ((Below.refl W0.heap.size W0).drew)
  have hlow : w.heap.size ≤ w.heap.size + 1 := by omega
  obtain ⟨e0, e1, e2, e3, e4⟩ := KS.out W0 (Below.refl _ _)
  clear hq hqr hqf hs0 hB0
  go_region_with (first | (go_at_call 80; with_reducible refine Calls.mono (L2.out _ (LW.out _ hB2)) ?_; rintro e w3 ⟨rfl, hb3⟩; have hB3 := hB2.trans (hb3.mono hB2.size)) | (go_at_call 80; with_reducible refine Calls.mono (L1.out _ (LW.out _ HD0.out)) ?_; rintro e w1 ⟨rfl, hb1⟩; have hB1 := HD0.out.trans (hb1.mono HD0.out.size); obtain ⟨f0, f1, f2, f3, f4⟩ := KS.out w1 hB1) | (go_at_call 81; refine Calls.mono (EX _).out ?_; rintro e w2 ⟨rfl, hb2⟩; have hB2 := hB1.trans (hb2.mono hB1.size)) | (go_at_call 79; refine Calls.mono (OW _).out ?_; rintro e w4 ⟨rfl, hb4⟩; have hB4 := hB3.trans (hb4.mono hB3.size); obtain ⟨z0, z1, y0, y1⟩ := KR.out w4 hB4))
  all_goals
    rename_i K hK
    refine hK _ _ ?_
    go_wp2
    refine bodyPost_ret (v := .agg #[.int .i64 x, .int .i64 y]) (by simp [results, Try.results55, go_sem, z0, z1]) rfl ⟨rfl, ?_⟩
    repeat (refine Below.setCell ?_ (by first | (simp; done) | (simp; omega)) _)
    exact LW.out _ hB4
end Go.Proofs.Ytffmaoalnilkkaa
