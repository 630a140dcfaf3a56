/- Walks over the fits: the worst seasons, the good case. -/
import Derived.Test.YtcjhodlimpgegaaGreatHF
namespace Go.Proofs.YtcjhodlimpgegaaGreat
open Go.RowKit Go.Maps

theorem wsI_lt' (v : Sn → Int) (l : List Sn) {k : Nat} (h : 0 < k) : wsI v l k < k := by
  obtain ⟨j, rfl⟩ : ∃ j, k = j + 1 := ⟨k - 1, by omega⟩
  have := wsI_lt v l j
  show (if j = 0 then 0 else if _ then j else _) < j + 1
  split
  · omega
  · split <;> omega
theorem wsV_bd {v : Sn → Int} {l : List Sn} {k : Nat} {B : Int} (hB : 0 ≤ B) (hk : k ≤ l.length) (h : ∀ s ∈ l, -B ≤ v s ∧ v s ≤ B) : -B ≤ wsV v l k ∧ wsV v l k ≤ B := by
  unfold wsV
  by_cases h0 : k = 0
  · rw [if_pos h0]; omega
  · rw [if_neg h0]
    have := wsI_lt' v l (show 0 < k by omega)
    rw [getD_snAt (by omega)]
    exact h _ (List.getElem_mem _)
set_option maxHeartbeats 4000000 in
set_option maxRecDepth 20000 in
theorem worst_ok {nm : ByteArray} {A A' S : Option Addr} {n c n' c' m d : Nat} {F : FitD} {l : List Sn} (hc : bothCode nm F l = 0) (hm0 : 0 < m) (hsz : nm.size ≤ maxLen) (w : World) (hA : MdRow w A n F.o) (hA' : MdRow w A' n' F.i) (hS : SnRow w S m l) :
    Calls Tryz.prog 39 #[ftV nm A n c A' n' c' F.le F.mo, .slice S m d] w fun e w' => e = .returned (.tuple #[.agg #[.int .i64 (wsI (fun s => leastS F.o F.i s.lo s.hi) l m), .int .i64 (wsI (fun s => leastS F.i F.o s.lo s.hi) l m)], outV (wsV (fun s => leastS F.o F.i s.lo s.hi) l m) (-(wsV (fun s => leastS F.i F.o s.lo s.hi) l m)), .int .i64 0]) ∧ Below w.heap.size w w' := by
  have hln := hS.1
  obtain ⟨hf, hs⟩ := bothCode_ok hc
  obtain ⟨hF, -, -⟩ := fitCode_ok hf
  obtain ⟨h24, hso⟩ := snsCode_ok hs
  have hn20 : n + n' ≤ 20 := by have := hF.hn; have := hA.1; have := hA'.1; omega
  have hlen20 : F.o.length + F.i.length ≤ 20 := hF.hn
  have HMD := Lib.hid (fun wx (hb : Below w.heap.size w wx) => And.intro (hA.below hb) (And.intro (hA'.below hb) (hS.below hb)))
  have CB := Lib.hid (fun wx (hb : Below w.heap.size w wx) => checkFitOver_any (c := c) (c' := c') (d := d) hc hsz (by omega) (by omega) (by unfold maxLen; omega) wx (HMD.out wx hb).1 (HMD.out wx hb).2.1 (HMD.out wx hb).2.2)
  have L1 := Lib.hid (fun wx (hb : Below w.heap.size w wx) => leastOfAll_any (nm := nm) (c := c) (c' := c') (d := d) (le := F.le) (mo := F.mo) hF.ho hF.hi hn20 hso (by omega) wx (HMD.out wx hb).1 (HMD.out wx hb).2.1 (HMD.out wx hb).2.2)
  have L2 := Lib.hid (fun wx (hb : Below w.heap.size w wx) => leastOfAll_any (nm := nm) (c := c') (c' := c) (d := d) (le := -F.mo) (mo := -F.le) hF.hi hF.ho (by omega) hso (by omega) wx (HMD.out wx hb).2.1 (HMD.out wx hb).1 (HMD.out wx hb).2.2)
  have EX := fun wx => Lib.hid (exchanged_any (nm := nm) (A := A) (n := n) (c := c) (A' := A') (n' := n') (c' := c') hF.hl hF.hm wx)
  have b1 := wsV_bd (v := fun s => leastS F.o F.i s.lo s.hi) (l := l) (k := m) (B := 400000000000000) (by decide) (by omega) (fun s hx => by have := (hso s hx).l0; have := (hso s hx).l1; have := (hso s hx).h1; have := leastS_bd (lo := s.lo) (hi := s.hi) hF.ho hF.hi hlen20 (by omega) (by omega) (by omega) (by omega); exact this)
  have b2 := wsV_bd (v := fun s => leastS F.i F.o s.lo s.hi) (l := l) (k := m) (B := 400000000000000) (by decide) (by omega) (fun s hx => by have := (hso s hx).l0; have := (hso s hx).l1; have := (hso s hx).h1; have := leastS_bd (lo := s.lo) (hi := s.hi) hF.hi hF.ho (by omega) (by omega) (by omega) (by omega) (by omega); exact this)
  have hmp : (0 : Int) < (m : Int) := by omega
  have hme : ((m : Int) == 0) = false := by simp; omega
  clear hA hA' hS hc hf hs hF h24 hso HMD hln hlen20
  obtain ⟨le, mo, o, i⟩ := F
  simp only at CB L1 L2 EX b1 b2 ⊢
  obtain ⟨p1, hp1⟩ : ∃ p, wsI (fun s => leastS o i s.lo s.hi) l m = p := ⟨_, rfl⟩
  obtain ⟨p2, hp2⟩ : ∃ p, wsI (fun s => leastS i o s.lo s.hi) l m = p := ⟨_, rfl⟩
  obtain ⟨u, hu⟩ : ∃ p, wsV (fun s => leastS o i s.lo s.hi) l m = p := ⟨_, rfl⟩
  obtain ⟨v, hv⟩ : ∃ p, wsV (fun s => leastS i o s.lo s.hi) l m = p := ⟨_, rfl⟩
  simp only [hp1, hu] at L1 b1 ⊢
  simp only [hp2, hv] at L2 b2 ⊢
  clear hp1 hp2 hu hv
  have hw1 : wrap64 (-v) = -v := w64 (by omega)
  have hw2 : IntKind.i64.wrap (-v) = -v := by rw [IntKind.wrap_i64]; omega
  have OW := fun wx => Lib.hid (outward_any (a := u) (b := -v) (by omega) (by omega) wx)
  unfold ftV at CB EX L1 L2 ⊢
  unfold outV at OW ⊢
  obtain ⟨x, hx⟩ : ∃ x, u / 1000000 = x := ⟨_, rfl⟩
  obtain ⟨y, hy⟩ : ∃ y, upM (-v) = y := ⟨_, rfl⟩
  simp only [hx, hy] at OW ⊢
  clear hx hy
  have hB0 : Below w.heap.size w (((w.alloc (.cells #[.string nm, .slice A n c, .slice A' n' c', .int .i64 le, .int .i64 mo] 24)).alloc (.cells #[.int .i64 0, .int .i64 0] 76)).alloc (.cells #[.int .i64 0, .int .i64 0] 31)) := (((Below.refl _ _).alloc (Nat.le_refl _) _).alloc (by simp) _).alloc (by simp; omega) _
  have hs0 : (((w.alloc (.cells #[.string nm, .slice A n c, .slice A' n' c', .int .i64 le, .int .i64 mo] 24)).alloc (.cells #[.int .i64 0, .int .i64 0] 76)).alloc (.cells #[.int .i64 0, .int .i64 0] 31)).heap.size = w.heap.size + 3 := by simp
  have hq : ∀ j (hj : j < 5), (((w.alloc (.cells #[.string nm, .slice A n c, .slice A' n' c', .int .i64 le, .int .i64 mo] 24)).alloc (.cells #[.int .i64 0, .int .i64 0] 76)).alloc (.cells #[.int .i64 0, .int .i64 0] 31)).cell? ⟨w.heap.size, j, none⟩ = #[Value.string nm, .slice A n c, .slice A' n' c', .int .i64 le, .int .i64 mo][j]? := by
    intro j hj; simp [go_sem]
  have hqs : ∀ j (hj : j < 2), (((w.alloc (.cells #[.string nm, .slice A n c, .slice A' n' c', .int .i64 le, .int .i64 mo] 24)).alloc (.cells #[.int .i64 0, .int .i64 0] 76)).alloc (.cells #[.int .i64 0, .int .i64 0] 31)).cell? ⟨w.heap.size + 1, j, none⟩ = #[Value.int .i64 0, .int .i64 0][j]? := by
    intro j hj; simp [go_sem]
  have hqr : ∀ j (hj : j < 2), (((w.alloc (.cells #[.string nm, .slice A n c, .slice A' n' c', .int .i64 le, .int .i64 mo] 24)).alloc (.cells #[.int .i64 0, .int .i64 0] 76)).alloc (.cells #[.int .i64 0, .int .i64 0] 31)).cell? ⟨w.heap.size + 1 + 1, j, none⟩ = #[Value.int .i64 0, .int .i64 0][j]? := by
    intro j hj; simp [go_sem]
  have hf1 : ∀ j (hj : j < 2), (((w.alloc (.cells #[.string nm, .slice A n c, .slice A' n' c', .int .i64 le, .int .i64 mo] 24)).alloc (.cells #[.int .i64 0, .int .i64 0] 76)).alloc (.cells #[.int .i64 0, .int .i64 0] 31)).frozen? ⟨w.heap.size + 1, j, none⟩ = false := by
    intro j hj; simp [go_sem]
  have hf2 : ∀ j (hj : j < 2), (((w.alloc (.cells #[.string nm, .slice A n c, .slice A' n' c', .int .i64 le, .int .i64 mo] 24)).alloc (.cells #[.int .i64 0, .int .i64 0] 76)).alloc (.cells #[.int .i64 0, .int .i64 0] 31)).frozen? ⟨w.heap.size + 1 + 1, j, none⟩ = false := by
    intro j hj; simp [go_sem]
  go_enter Tryz.func39, Tryz.ntmps39
  go_upto_region 1 with fail
  generalize (((w.alloc (.cells #[.string nm, .slice A n c, .slice A' n' c', .int .i64 le, .int .i64 mo] 24)).alloc (.cells #[.int .i64 0, .int .i64 0] 76)).alloc (.cells #[.int .i64 0, .int .i64 0] 31)) = W0 at hB0 hs0 hq hqs hqr hf1 hf2 ⊢
  have HB0 := Lib.hid hB0
  have LW := Lib.hid (fun wx (hb : Below W0.heap.size W0 wx) => (show Below w.heap.size w wx from HB0.out.trans (hb.mono HB0.out.size)))
  have KS := Lib.hid (fun wx (hb : Below W0.heap.size W0 wx) => (show wx.cell? ⟨w.heap.size, 0, none⟩ = some (.string nm) ∧ wx.cell? ⟨w.heap.size, 0 + 1, none⟩ = some (.slice A n c) ∧ wx.cell? ⟨w.heap.size, 0 + 2, none⟩ = some (.slice A' n' c') ∧ wx.cell? ⟨w.heap.size, 0 + 3, none⟩ = some (.int .i64 le) ∧ wx.cell? ⟨w.heap.size, 0 + 4, none⟩ = some (.int .i64 mo) from by
    have k := (bcell hb).1
    exact ⟨(k _ _ (by omega)).trans (hq 0 (by omega)), (k _ _ (by omega)).trans (hq 1 (by omega)), (k _ _ (by omega)).trans (hq 2 (by omega)), (k _ _ (by omega)).trans (hq 3 (by omega)), (k _ _ (by omega)).trans (hq 4 (by omega))⟩))
  have KR := Lib.hid (fun wx (hb : Below W0.heap.size W0 wx) => (show (wx.cell? ⟨w.heap.size + 1, 0, none⟩ = some (.int .i64 0) ∧ wx.cell? ⟨w.heap.size + 1, 1, none⟩ = some (.int .i64 0) ∧ wx.frozen? ⟨w.heap.size + 1, 0, none⟩ = false ∧ wx.frozen? ⟨w.heap.size + 1, 1, none⟩ = false) ∧ wx.cell? ⟨w.heap.size + 1 + 1, 0, none⟩ = some (.int .i64 0) ∧ wx.cell? ⟨w.heap.size + 1 + 1, 1, none⟩ = some (.int .i64 0) ∧ wx.frozen? ⟨w.heap.size + 1 + 1, 0, none⟩ = false ∧ wx.frozen? ⟨w.heap.size + 1 + 1, 1, none⟩ = false from by
    obtain ⟨k, kf⟩ := bcell hb
    exact ⟨⟨(k _ _ (by omega)).trans (hqs 0 (by omega)), (k _ _ (by omega)).trans (hqs 1 (by omega)), (kf _ _ (by omega)).trans (hf1 0 (by omega)), (kf _ _ (by omega)).trans (hf1 1 (by omega))⟩, (k _ _ (by omega)).trans (hqr 0 (by omega)), (k _ _ (by omega)).trans (hqr 1 (by omega)), (kf _ _ (by omega)).trans (hf2 0 (by omega)), (kf _ _ (by omega)).trans (hf2 1 (by omega))⟩))
  obtain ⟨e0, e1, e2, e3, e4⟩ := KS.out W0 (Below.refl _ _)
  clear hq hqs hqr hf1 hf2 hs0 hB0
  go_wp2_with (first | (go_at_call 68; refine Calls.mono (CB.out _ HB0.out) ?_; rintro e w1 ⟨rfl, hb1⟩; obtain ⟨f0, f1, f2, f3, f4⟩ := KS.out w1 hb1) | (go_at_call 82; with_reducible refine Calls.mono (L1.out _ (LW.out _ hb1)) ?_; rintro e w2 ⟨rfl, hb2⟩; have hB2 := hb1.trans (hb2.mono hb1.size); obtain ⟨g0, g1, g2, g3, g4⟩ := KS.out w2 hB2) | (go_at_call 83; refine Calls.mono (EX _).out ?_; rintro e w3 ⟨rfl, hb3⟩; have hB3 := hB2.trans (hb3.mono hB2.size)) | (go_at_call 82; refine Calls.mono (L2.out _ (LW.out _ hB3)) ?_; rintro e w4 ⟨rfl, hb4⟩; have hB4 := hB3.trans (hb4.mono hB3.size)) | (go_at_call 84; refine Calls.mono (OW _).out ?_; rintro e w5 ⟨rfl, hb5⟩; have hB5 := hB4.trans (hb5.mono hB4.size); obtain ⟨⟨z0, z1, y0, y1⟩, z2, z3, y2, y3⟩ := KR.out w5 hB5))
  refine bodyPost_ret (v := .tuple #[.agg #[.int .i64 p1, .int .i64 p2], .agg #[.int .i64 x, .int .i64 y], .int .i64 0]) (by simp [results, Tryz.results39, go_sem, z0, z1, z2, z3]) rfl ⟨rfl, ?_⟩
  repeat (refine Below.setCell ?_ (by first | (simp; done) | (simp; omega)) _)
  exact LW.out _ hB5
end Go.Proofs.YtcjhodlimpgegaaGreat
