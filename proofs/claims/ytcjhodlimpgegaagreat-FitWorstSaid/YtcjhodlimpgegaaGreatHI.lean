/- Walks over the fits: the law of the worst seasons, the good case. -/
import Derived.Test.YtcjhodlimpgegaaGreatHH
namespace Go.Proofs.YtcjhodlimpgegaaGreat
open Go.RowKit Go.Maps

structure WQ (w5 wr : World) (B : Nat) (a b : Int) : Prop where
  c0 : wr.cell? ⟨B, 0, none⟩ = some (.int .i64 a)
  c1 : wr.cell? ⟨B, 1, none⟩ = some (.int .i64 b)
  f0 : wr.frozen? ⟨B, 0, none⟩ = false
  f1 : wr.frozen? ⟨B, 1, none⟩ = false
  bel : Below B w5 wr
theorem WQ.below {w5 wr w' : World} {B : Nat} {a b : Int} (h : WQ w5 wr B a b) (hb : Below wr.heap.size wr w') : WQ w5 w' B a b := by
  obtain ⟨c0, c1, f0, f1, bel⟩ := h
  obtain ⟨k, kf⟩ := bcell hb
  have lB := World.block_lt_of_cell? wr _ c0
  exact ⟨(k _ _ lB).trans c0, (k _ _ lB).trans c1, (kf _ _ lB).trans f0, (kf _ _ lB).trans f1, bel.trans (hb.mono (Nat.le_of_lt lB))⟩
theorem WQ.set0 {w5 wr : World} {B : Nat} {a b : Int} (h : WQ w5 wr B a b) (a' : Int) : WQ w5 (wr.setCell ⟨B, 0, none⟩ (.int .i64 a')) B a' b := by
  obtain ⟨c0, c1, f0, f1, bel⟩ := h
  refine ⟨World.cell?_setCell_same _ _ _ c0, (World.cell?_setCell_other _ _ _ _ (by simp)).trans c1, ?_, ?_, bel.setCell (p := ⟨B, 0, none⟩) (Nat.le_refl _) _⟩
  · rw [World.frozen?_setCell]; exact f0
  · rw [World.frozen?_setCell]; exact f1
theorem WQ.set1 {w5 wr : World} {B : Nat} {a b : Int} (h : WQ w5 wr B a b) (b' : Int) : WQ w5 (wr.setCell ⟨B, 1, none⟩ (.int .i64 b')) B a b' := by
  obtain ⟨c0, c1, f0, f1, bel⟩ := h
  refine ⟨(World.cell?_setCell_other _ _ _ _ (by simp)).trans c0, World.cell?_setCell_same _ _ _ c1, ?_, ?_, bel.setCell (p := ⟨B, 1, none⟩) (Nat.le_refl _) _⟩
  · rw [World.frozen?_setCell]; exact f0
  · rw [World.frozen?_setCell]; exact f1
set_option maxHeartbeats 8000000 in
set_option maxRecDepth 20000 in
theorem fitWorst_good {nm : ByteArray} {A A' S : Option Addr} {n c n' c' m d : Nat} {F : FitD} {l : List Sn} (hc : bothCode nm F l = 0) (hm0 : 0 < m) (h1 : slightB nm n n' = true) (h2 : snBound l = true) (hsz : nm.size ≤ maxLen) (w : World) (hA : MdRow w A n F.o) (hA' : MdRow w A' n' F.i) (hS : SnRow w S m l) :
    Calls Tryz.prog 8 #[ftV nm A n c A' n' c' F.le F.mo, .slice S m d] w fun e w' => e = .returned (.bool true) ∧ Below w.heap.size w w' := by
  have hln := hS.1
  obtain ⟨hf, hs⟩ := bothCode_ok hc
  obtain ⟨hF, -, -⟩ := fitCode_ok hf
  obtain ⟨h24, hso⟩ := snsCode_ok hs
  have hn20 : n + n' ≤ 20 := by have := hF.hn; have := hA.1; have := hA'.1; omega
  have hlen20 : F.o.length + F.i.length ≤ 20 := hF.hn
  have hmm : m ≤ maxLen := by unfold maxLen; omega
  have hm24 : m ≤ 24 := by omega
  have HMD := Lib.hid (fun wx (hb : Below w.heap.size w wx) => And.intro (hA.below hb) (And.intro (hA'.below hb) (hS.below hb)))
  have SL := fun wx => Lib.hid (slight_law (A := A) (n := n) (c := c) (A' := A') (n' := n') (c' := c') (le := F.le) (mo := F.mo) hsz (by unfold maxLen; omega) (by unfold maxLen; omega) wx)
  simp only [h1] at SL
  have SB := Lib.hid (fun wx (hx : Below w.heap.size w wx) => seasons_law (d := d) h2 hmm wx (HMD.out wx hx).2.2)
  have WB := Lib.hid (fun wx (hx : Below w.heap.size w wx) => worst_ok (c := c) (c' := c') (d := d) hc hm0 hsz wx (HMD.out wx hx).1 (HMD.out wx hx).2.1 (HMD.out wx hx).2.2)
  have RB := Lib.hid (fun wx (hx : Below w.heap.size w wx) => rboth_any (c := c) (c' := c') (d := d) hc hsz (by omega) (by omega) hmm wx (HMD.out wx hx).1 (HMD.out wx hx).2.1 (HMD.out wx hx).2.2)
  have OVA := Lib.hid (fun wx (sn : ByteArray) lo hi (l0 : 0 ≤ lo) (l1 : lo ≤ 400) (h0 : 0 ≤ hi) (h1 : hi ≤ 400) (hb : Below w.heap.size w wx) => rover_any (nm := nm) (sn := sn) (c := c) (c' := c') (le := F.le) (mo := F.mo) hF.ho hF.hi hn20 l0 l1 h0 h1 wx (HMD.out wx hb).1 (HMD.out wx hb).2.1)
  have HV := Lib.hid (fun (s : Sn) (hs : s ∈ l) => (show (-400000000000000 ≤ leastS F.o F.i s.lo s.hi ∧ leastS F.o F.i s.lo s.hi ≤ 400000000000000) ∧ (-400000000000000 ≤ leastS F.i F.o s.lo s.hi ∧ leastS F.i F.o s.lo s.hi ≤ 400000000000000) from by
    have := (hso s hs).l0; have := (hso s hs).l1; have := (hso s hs).h1
    exact ⟨leastS_bd hF.ho hF.hi hlen20 (by omega) (by omega) (by omega) (by omega), leastS_bd hF.hi hF.ho (by omega) (by omega) (by omega) (by omega) (by omega)⟩))
  have BV1 := Lib.hid (fun k (hk : k ≤ l.length) => wsV_bd (v := fun s => leastS F.o F.i s.lo s.hi) (l := l) (k := k) (B := 400000000000000) (by decide) hk (fun s hx => (HV.out s hx).1))
  have BV2 := Lib.hid (fun k (hk : k ≤ l.length) => wsV_bd (v := fun s => leastS F.i F.o s.lo s.hi) (l := l) (k := k) (B := 400000000000000) (by decide) hk (fun s hx => (HV.out s hx).2))
  have HR := Lib.hid hS
  have HSO := Lib.hid hso
  clear hA hA' hS hc hf hs hF h24 hso HMD h1 h2 hlen20
  obtain ⟨le, mo, o, i⟩ := F
  simp only at SL WB RB OVA HV BV1 BV2 ⊢
  obtain ⟨v1, hv1⟩ : ∃ f : Sn → Int, f = fun s => leastS o i s.lo s.hi := ⟨_, rfl⟩
  obtain ⟨v2, hv2⟩ : ∃ f : Sn → Int, f = fun s => leastS i o s.lo s.hi := ⟨_, rfl⟩
  have HV1 : Hid (∀ s, leastS o i s.lo s.hi = v1 s) := Lib.hid (fun s => by rw [hv1])
  have HV2 : Hid (∀ s, leastS i o s.lo s.hi = v2 s) := Lib.hid (fun s => by rw [hv2])
  rw [← hv1, ← hv2] at WB
  rw [← hv1] at BV1
  rw [← hv2] at BV2
  simp only [HV1.out, HV2.out] at HV
  clear hv1 hv2
  have hbm1 := BV1.out m (by omega)
  have hbm2 := BV2.out m (by omega)
  obtain ⟨p1, hp1⟩ : ∃ p, wsI v1 l m = p := ⟨_, rfl⟩
  obtain ⟨p2, hp2⟩ : ∃ p, wsI v2 l m = p := ⟨_, rfl⟩
  obtain ⟨u, hu⟩ : ∃ p, wsV v1 l m = p := ⟨_, rfl⟩
  obtain ⟨v, hv⟩ : ∃ p, wsV v2 l m = p := ⟨_, rfl⟩
  have HP1 := Lib.hid hp1; have HP2 := Lib.hid hp2; have HU := Lib.hid hu; have HVV := Lib.hid hv
  simp only [hp1, hp2, hu, hv] at WB
  rw [hu] at hbm1
  rw [hv] at hbm2
  clear hp1 hp2 hu hv
  have RO := fun wx => Lib.hid (rround_any (a := u) (b := -v) (by omega) (by omega) wx)
  unfold outV at WB RO
  obtain ⟨xx, hx⟩ : ∃ x, u / 1000000 = x := ⟨_, rfl⟩
  obtain ⟨yy, hy⟩ : ∃ y, upM (-v) = y := ⟨_, rfl⟩
  simp only [hx, hy] at WB RO
  clear hx hy
  have hmp : (0 : Int) < (m : Int) := by omega
  have hme : ((m : Int) == 0) = false := by simp; omega
  have hB1 : Hid (∀ o, Below w.heap.size w (w.alloc o)) := Lib.hid (fun o => (Below.refl _ _).alloc (Nat.le_refl _) _)
  unfold ftV at SL WB RB OVA ⊢
  have hq : ∀ o j (hj : j < 5), o = Obj.cells #[.string nm, .slice A n c, .slice A' n' c', .int .i64 le, .int .i64 mo] 24 → (w.alloc o).cell? ⟨w.heap.size, j, none⟩ = #[Value.string nm, .slice A n c, .slice A' n' c', .int .i64 le, .int .i64 mo][j]? := by
    intro o j hj e; subst e; rw [World.cell?_alloc_new]
  have KF := Lib.hid (fun wx (hb : Below (w.alloc (.cells #[.string nm, .slice A n c, .slice A' n' c', .int .i64 le, .int .i64 mo] 24)).heap.size (w.alloc (.cells #[.string nm, .slice A n c, .slice A' n' c', .int .i64 le, .int .i64 mo] 24)) wx) => (show wx.cell? ⟨w.heap.size, 0, none⟩ = some (.string nm) ∧ wx.cell? ⟨w.heap.size, 0 + 1, none⟩ = some (.slice A n c) ∧ wx.cell? ⟨w.heap.size, 0 + 2, none⟩ = some (.slice A' n' c') ∧ wx.cell? ⟨w.heap.size, 0 + 3, none⟩ = some (.int .i64 le) ∧ wx.cell? ⟨w.heap.size, 0 + 4, none⟩ = some (.int .i64 mo) from by
    have k := (bcell hb).1
    exact ⟨(k _ _ (by simp)).trans (hq _ 0 (by omega) rfl), (k _ _ (by simp)).trans (hq _ 1 (by omega) rfl), (k _ _ (by simp)).trans (hq _ 2 (by omega) rfl), (k _ _ (by simp)).trans (hq _ 3 (by omega) rfl), (k _ _ (by simp)).trans (hq _ 4 (by omega) rfl)⟩))
  clear hq
  go_enter Tryz.func8, Tryz.ntmps8
  go_upto_region 12 with (first | (go_at_call 11; refine Calls.mono (awake_any _) ?_; rintro e w1 ⟨rfl, hb1⟩; have hB1' := (hB1.out _).trans (hb1.mono (by simp)); obtain ⟨f0, f1, f2, f3, f4⟩ := KF.out w1 hb1) | (go_at_call 12; refine Calls.mono (SL _).out ?_; rintro e w2 ⟨rfl, hb2⟩; have hB2 := hB1'.trans (hb2.mono hB1'.size); have hP2 := hb1.trans (hb2.mono hb1.size); obtain ⟨g0, g1, g2, g3, g4⟩ := KF.out w2 hP2) | (go_at_call 23; refine Calls.mono (SB.out _ hB2) ?_; rintro e w3 ⟨rfl, rfl⟩) | (go_at_call 39; refine Calls.mono (WB.out _ hB2) ?_; rintro e w4 ⟨rfl, hb4⟩; have hB4' := hB2.trans (hb4.mono hB2.size); have hP4' := hP2.trans (hb4.mono hP2.size); have hB4 := (hB4'.alloc hB4'.size (.cells #[.int .i64 p1, .int .i64 p2] 76)).alloc (by refine Nat.le_trans hB4'.size ?_; simp) (.cells #[.int .i64 xx, .int .i64 yy] 31); have hP4 := (hP4'.alloc hP4'.size (.cells #[.int .i64 p1, .int .i64 p2] 76)).alloc (by refine Nat.le_trans hP4'.size ?_; simp) (.cells #[.int .i64 xx, .int .i64 yy] 31); obtain ⟨k0, k1, k2, k3, k4⟩ := KF.out _ hP4) | (go_at_call 25; refine Calls.mono (RB.out _ hB4) ?_; rintro e w5 ⟨rfl, hb5⟩; obtain ⟨hc5, hf5⟩ := bcell hb5))
  have HB5 := Lib.hid (hB4.trans (hb5.mono hB4.size))
  have HP5 := Lib.hid (hP4.trans (hb5.mono hP4.size))
  have hx0 : w5.cell? ⟨w4.heap.size, 0, none⟩ = some (.int .i64 p1) := (hc5 _ _ (by simp; omega)).trans (by simp [go_sem])
  have hx1 : w5.cell? ⟨w4.heap.size, 1, none⟩ = some (.int .i64 p2) := (hc5 _ _ (by simp; omega)).trans (by simp [go_sem])
  have hi0 : w5.cell? ⟨w4.heap.size + 1, 0, none⟩ = some (.int .i64 xx) := (hc5 _ _ (by simp)).trans (by simp [go_sem])
  have hi1 : w5.cell? ⟨w4.heap.size + 1, 1, none⟩ = some (.int .i64 yy) := (hc5 _ _ (by simp)).trans (by simp [go_sem])
  have hX5 : w4.heap.size + 1 < w5.heap.size := by have := hb5.size; simp at this; omega
  have hW5 : w.heap.size < w5.heap.size := by have := HP5.out.size; simp at this; omega
  have KX9 := Lib.hid (fun wx (hb : Below w5.heap.size w5 wx) => (show wx.cell? ⟨w4.heap.size, 0, none⟩ = some (.int .i64 p1) ∧ wx.cell? ⟨w4.heap.size, 0 + 1, none⟩ = some (.int .i64 p2) ∧ wx.cell? ⟨w4.heap.size + 1, 0, none⟩ = some (.int .i64 xx) ∧ wx.cell? ⟨w4.heap.size + 1, 0 + 1, none⟩ = some (.int .i64 yy) from by
    have k := (bcell hb).1
    exact ⟨(k _ _ (by omega)).trans hx0, (k _ _ (by omega)).trans hx1, (k _ _ hX5).trans hi0, (k _ _ hX5).trans hi1⟩))
  have KF9 := Lib.hid (fun wx (hb : Below w5.heap.size w5 wx) => KF.out wx (HP5.out.trans (hb.mono HP5.out.size)))
  have LW := Lib.hid (fun wx (hb : Below w5.heap.size w5 wx) => (show Below w.heap.size w wx from HB5.out.trans (hb.mono HB5.out.size)))
  have HW9 : WQ w5 (w5.alloc (.cells #[.int .i64 0, .int .i64 0] 76)) w5.heap.size 0 0 :=
    ⟨by rw [World.cell?_alloc_new]; rfl, by rw [World.cell?_alloc_new]; rfl, by simp [go_sem], by simp [go_sem], (Below.refl _ _).alloc (Nat.le_refl _) _⟩
  generalize hB9 : w5.heap.size = B9 at HW9 KX9 KF9 LW hX5 hW5 ⊢
  generalize (w5.alloc (.cells #[.int .i64 0, .int .i64 0] 76)) = W9 at HW9 ⊢
  have HWQ9 := Lib.hid HW9
  have HB9 := Lib.hid hB9
  clear hb1 hb2 hb4 hb5 hB1' hB2 hP2 hB4' hP4' hB4 hP4 hc5 hf5 hx0 hx1 hi0 hi1 HW9 f0 f1 f2 f3 f4 g0 g1 g2 g3 g4 k0 k1 k2 k3 k4 SL SB WB RB hB9
  obtain ⟨blk, off, rfl, hblk, hx⟩ := HR.out.2 hm0
  have HXS := Lib.hid (fun wx (hb : Below B9 w5 wx) k (hk : k < l.length) => (hx k hk).below (LW.out wx hb) hblk)
  have hbk9 : blk < B9 := by omega
  clear hx HR
  have hl0 : 0 < l.length := by omega
  have hok0 := HSO.out l[0] (List.getElem_mem hl0)
  have H01 := Lib.hid (ws_one v1 l)
  have H02 := Lib.hid (ws_one v2 l)
  rw [getD_snAt hl0] at H01 H02
  have hxx := HXS.out W9 HWQ9.out.bel 0 hl0
  have HX0 := Lib.hid (fun wx (hb : Below B9 w5 wx) => HXS.out wx hb 0 hl0)
  obtain ⟨s0, hs0⟩ : ∃ s, l[0] = s := ⟨_, rfl⟩
  rw [hs0] at hok0 H01 H02
  simp only [hs0] at HX0
  clear hs0 hxx
  obtain ⟨sn, lo, hi⟩ := s0
  have q0 := hok0.l0; have q1 := hok0.l1; have q2 := hok0.h1
  simp only at q0 q1 q2
  have OV := Lib.hid (fun wx (hb : Below B9 w5 wx) => OVA.out wx sn lo hi q0 (by omega) (by omega) q2 (LW.out wx hb))
  have E1 := HV1.out ⟨sn, lo, hi⟩
  have E2 := HV2.out ⟨sn, lo, hi⟩
  simp only at E1 E2
  rw [E1, E2] at OV
  clear E1 E2 hok0
  obtain ⟨y1, hy1⟩ : ∃ y, v1 ⟨sn, lo, hi⟩ = y := ⟨_, rfl⟩
  obtain ⟨y2, hy2⟩ : ∃ y, v2 ⟨sn, lo, hi⟩ = y := ⟨_, rfl⟩
  simp only [hy1] at OV H01
  simp only [hy2] at OV H02
  clear hy1 hy2
  have LQ := Lib.hid (fun wx (hb : Below W9.heap.size W9 wx) => (show Below B9 w5 wx from HWQ9.out.bel.trans (hb.mono (Nat.le_of_lt (World.block_lt_of_cell? W9 _ HWQ9.out.c0)))))
  have KX := Lib.hid (fun wx (hb : Below W9.heap.size W9 wx) => (show Below W9.heap.size W9 wx ∧ (wx.cell? ⟨w.heap.size, 0, none⟩ = some (.string nm) ∧ wx.cell? ⟨w.heap.size, 0 + 1, none⟩ = some (.slice A n c) ∧ wx.cell? ⟨w.heap.size, 0 + 2, none⟩ = some (.slice A' n' c') ∧ wx.cell? ⟨w.heap.size, 0 + 3, none⟩ = some (.int .i64 le) ∧ wx.cell? ⟨w.heap.size, 0 + 4, none⟩ = some (.int .i64 mo)) ∧ wx.cell? ⟨blk, off, none⟩ = some (.string sn) ∧ wx.cell? ⟨blk, off + 1, none⟩ = some (.int .i64 lo) ∧ wx.cell? ⟨blk, off + 2, none⟩ = some (.int .i64 hi) from by
    obtain ⟨x0, x1, x2, -⟩ := HX0.out wx (LQ.out wx hb)
    rw [show off + 0 * 3 = off by omega] at x0 x1 x2
    exact ⟨hb, KF9.out wx (LQ.out wx hb), x0, x1, x2⟩))
  have hmd1 : decide ((0 : Int) < (m : Int)) = true := decide_eq_true hmp
  have hmd2 : decide (0 < m) = true := decide_eq_true hm0
  go_region_held3 (fun wx => Below W9.heap.size W9 wx ∧ (wx.cell? ⟨w.heap.size, 0, none⟩ = some (.string nm) ∧ wx.cell? ⟨w.heap.size, 0 + 1, none⟩ = some (.slice A n c) ∧ wx.cell? ⟨w.heap.size, 0 + 2, none⟩ = some (.slice A' n' c') ∧ wx.cell? ⟨w.heap.size, 0 + 3, none⟩ = some (.int .i64 le) ∧ wx.cell? ⟨w.heap.size, 0 + 4, none⟩ = some (.int .i64 mo)) ∧ wx.cell? ⟨blk, off, none⟩ = some (.string sn) ∧ wx.cell? ⟨blk, off + 1, none⟩ = some (.int .i64 lo) ∧ wx.cell? ⟨blk, off + 2, none⟩ = some (.int .i64 hi)) (first | assumption | (exact KX.out _ (Below.refl _ _).drew) | (exact KX.out _ (Below.trans (And.left (by assumption)) (Below.mono hbx (Below.size (And.left (by assumption))))))) (first | (go_at_call 17; refine Calls.mono (OV.out _ (LQ.out _ (And.left (by assumption)))) ?_; rintro e wa ⟨rfl, hbx⟩))
  all_goals
    have HQ1 := Lib.hid (HWQ9.out.below (And.left (by assumption) : Below W9.heap.size W9 wa))
    clear OV KX LQ HX0 q0 q1 q2
    generalize wa = wz at HQ1 ⊢
    go_wp2
    go_loopw [10, 11, 12] (fun a b i wr => ∃ k : Nat, 1 ≤ k ∧ k ≤ m ∧ i = .int .i64 k ∧ a = .int .i64 (wsV v1 l k) ∧ b = .int .i64 (-(wsV v2 l k)) ∧ Hid (WQ w5 wr B9 (wsI v1 l k) (wsI v2 l k))) (fun _ _ i _ => m - (intOf i).toNat)
    case atStart => exact ⟨1, by omega, by omega, rfl, by rw [H01.out.2], by rw [H02.out.2], Lib.hid (by rw [H01.out.1, H02.out.1]; exact HQ1.out)⟩
    case round =>
      obtain ⟨k, hk1, hk, rfl, rfl, rfl, HWQ⟩ := hrel
      by_cases hlt : k < m
      · have hkl : k < l.length := by omega
        have hk0 : k ≠ 0 := by omega
        have hok := HSO.out l[k] (List.getElem_mem hkl)
        have hvb := HV.out l[k] (List.getElem_mem hkl)
        have HL1 := Lib.hid (fun (h0 : k ≠ 0) h => ws_less (v := v1) (l := l) h0 h)
        have HM1 := Lib.hid (fun (h0 : k ≠ 0) h => ws_more (v := v1) (l := l) h0 h)
        have HL2 := Lib.hid (fun (h0 : k ≠ 0) h => ws_less (v := v2) (l := l) h0 h)
        have HM2 := Lib.hid (fun (h0 : k ≠ 0) h => ws_more (v := v2) (l := l) h0 h)
        have HGD := Lib.hid (getD_snAt hkl)
        have HXK := Lib.hid (fun wx (hb : Below B9 w5 wx) => HXS.out wx hb k hkl)
        obtain ⟨x, hxe⟩ : ∃ x, l[k] = x := ⟨_, rfl⟩
        rw [hxe] at hok HGD hvb
        simp only [hxe] at HXK
        clear hxe
        rw [HGD.out] at HL1 HM1 HL2 HM2
        clear HGD
        obtain ⟨sn, lo, hi⟩ := x
        have j0 := hok.l0; have j1 := hok.l1; have j2 := hok.h1
        simp only at j0 j1 j2
        have OV := Lib.hid (fun wx (hb : Below B9 w5 wx) => OVA.out wx sn lo hi j0 (by omega) (by omega) j2 (LW.out wx hb))
        have E1 := HV1.out ⟨sn, lo, hi⟩
        have E2 := HV2.out ⟨sn, lo, hi⟩
        simp only at E1 E2
        rw [E1, E2] at OV
        clear E1 E2 hok j0 j1 j2
        obtain ⟨y1, hy1e⟩ : ∃ y, v1 ⟨sn, lo, hi⟩ = y := ⟨_, rfl⟩
        obtain ⟨y2, hy2e⟩ : ∃ y, v2 ⟨sn, lo, hi⟩ = y := ⟨_, rfl⟩
        simp only [hy1e, hy2e] at OV hvb
        rw [hy1e] at HL1 HM1
        rw [hy2e] at HL2 HM2
        clear hy1e hy2e
        have bb1 := BV1.out k (by omega)
        have bb2 := BV2.out k (by omega)
        obtain ⟨a1, ha1⟩ : ∃ a, wsV v1 l k = a := ⟨_, rfl⟩
        obtain ⟨a2, ha2⟩ : ∃ a, wsV v2 l k = a := ⟨_, rfl⟩
        obtain ⟨i1, hi1⟩ : ∃ a : Int, (wsI v1 l k : Int) = a := ⟨_, rfl⟩
        obtain ⟨i2, hi2⟩ : ∃ a : Int, (wsI v2 l k : Int) = a := ⟨_, rfl⟩
        have HI1 := Lib.hid hi1
        have HI2 := Lib.hid hi2
        have HM1' : Hid (∀ (h0 : k ≠ 0), ¬ y1 < wsV v1 l k → (wsI v1 l (k + 1) : Int) = i1 ∧ wsV v1 l (k + 1) = wsV v1 l k) := Lib.hid (fun h0 h => by obtain ⟨e1, e2⟩ := HM1.out h0 h; exact ⟨by rw [e1]; exact hi1, e2⟩)
        have HM2' : Hid (∀ (h0 : k ≠ 0), ¬ y2 < wsV v2 l k → (wsI v2 l (k + 1) : Int) = i2 ∧ wsV v2 l (k + 1) = wsV v2 l k) := Lib.hid (fun h0 h => by obtain ⟨e1, e2⟩ := HM2.out h0 h; exact ⟨by rw [e1]; exact hi2, e2⟩)
        have HL1' : Hid (∀ (h0 : k ≠ 0), y1 < wsV v1 l k → (wsI v1 l (k + 1) : Int) = k ∧ wsV v1 l (k + 1) = y1) := Lib.hid (fun h0 h => by obtain ⟨e1, e2⟩ := HL1.out h0 h; exact ⟨by rw [e1], e2⟩)
        have HL2' : Hid (∀ (h0 : k ≠ 0), y2 < wsV v2 l k → (wsI v2 l (k + 1) : Int) = k ∧ wsV v2 l (k + 1) = y2) := Lib.hid (fun h0 h => by obtain ⟨e1, e2⟩ := HL2.out h0 h; exact ⟨by rw [e1], e2⟩)
        clear HL1 HM1 HL2 HM2
        have HL1 := HL1'; have HM1 := HM1'; have HL2 := HL2'; have HM2 := HM2'
        clear HL1' HM1' HL2' HM2'
        rw [ha1] at HL1 HM1 bb1 ⊢
        rw [ha2] at HL2 HM2 bb2 ⊢
        rw [hi1, hi2] at HWQ
        clear ha1 ha2 hi1 hi2 HI1 HI2
        have hkm : (k : Int) < (m : Int) := by omega
        obtain ⟨wq, hwq⟩ : ∃ wq, wq = wr := ⟨_, rfl⟩
        rw [← hwq] at HWQ ⊢
        clear hwq
        have LQ := Lib.hid (fun wx (hb : Below wq.heap.size wq wx) => (show Below B9 w5 wx from HWQ.out.bel.trans (hb.mono (Nat.le_of_lt (World.block_lt_of_cell? wq _ HWQ.out.c0)))))
        have KX := Lib.hid (fun wx (hb : Below wq.heap.size wq wx) => (show Below wq.heap.size wq wx ∧ (wx.cell? ⟨w.heap.size, 0, none⟩ = some (.string nm) ∧ wx.cell? ⟨w.heap.size, 0 + 1, none⟩ = some (.slice A n c) ∧ wx.cell? ⟨w.heap.size, 0 + 2, none⟩ = some (.slice A' n' c') ∧ wx.cell? ⟨w.heap.size, 0 + 3, none⟩ = some (.int .i64 le) ∧ wx.cell? ⟨w.heap.size, 0 + 4, none⟩ = some (.int .i64 mo)) ∧ wx.cell? ⟨blk, off + k * 3, none⟩ = some (.string sn) ∧ wx.cell? ⟨blk, off + k * 3 + 1, none⟩ = some (.int .i64 lo) ∧ wx.cell? ⟨blk, off + k * 3 + 2, none⟩ = some (.int .i64 hi) from by
          obtain ⟨x0, x1, x2, -⟩ := HXK.out wx (LQ.out wx hb)
          exact ⟨hb, KF9.out wx (LQ.out wx hb), x0, x1, x2⟩))
        clear HXK
        by_cases hy1 : y1 < a1
        · by_cases hy2 : y2 < a2
          · 
            have HN1 := Lib.hid (HL1.out hk0 hy1)
            have HN2 := Lib.hid (HL2.out hk0 hy2)
            have hcb : decide (-a2 < -y2) = true := decide_eq_true (by omega)
            have hcb2 : -a2 < -y2 := by omega
            clear HL1 HM1 HL2 HM2
            go_wp2
            go_region_held3 (fun wx => Below wq.heap.size wq wx ∧ (wx.cell? ⟨w.heap.size, 0, none⟩ = some (.string nm) ∧ wx.cell? ⟨w.heap.size, 0 + 1, none⟩ = some (.slice A n c) ∧ wx.cell? ⟨w.heap.size, 0 + 2, none⟩ = some (.slice A' n' c') ∧ wx.cell? ⟨w.heap.size, 0 + 3, none⟩ = some (.int .i64 le) ∧ wx.cell? ⟨w.heap.size, 0 + 4, none⟩ = some (.int .i64 mo)) ∧ wx.cell? ⟨blk, off + k * 3, none⟩ = some (.string sn) ∧ wx.cell? ⟨blk, off + k * 3 + 1, none⟩ = some (.int .i64 lo) ∧ wx.cell? ⟨blk, off + k * 3 + 2, none⟩ = some (.int .i64 hi)) (first | assumption | (exact KX.out _ (Below.refl _ _).drew) | (exact KX.out _ (Below.trans (And.left (by assumption)) (Below.mono hbx (Below.size (And.left (by assumption))))))) (first | (go_at_call 17; refine Calls.mono (OV.out _ (LQ.out _ (And.left (by assumption)))) ?_; rintro e wa ⟨rfl, hbx⟩))
            all_goals
              have HQA := Lib.hid (HWQ.out.below (And.left (by assumption) : Below wq.heap.size wq wa))
              obtain ⟨z0, z1, f0, f1, -⟩ := HQA.out
              have n1 : (wa.setCell ⟨B9, 0, none⟩ (.int .i64 (k : Int))).cell? ⟨B9, 1, none⟩ = some (.int .i64 i2) := (World.cell?_setCell_other _ _ _ _ (by simp)).trans z1
              have n2 : (wa.setCell ⟨B9, 0, none⟩ (.int .i64 (k : Int))).frozen? ⟨B9, 1, none⟩ = false := by rw [World.frozen?_setCell]; exact f1
              go_wp2
              go_roundw
              case rel => exact ⟨k + 1, by omega, by omega, by go_num, by rw [HN1.out.2], by rw [HN2.out.2], Lib.hid (by rw [HN1.out.1, HN2.out.1]; exact ((HQA.out.set0 (k : Int)).set1 (k : Int)))⟩
              case measure => simp [intOf]; omega
          · 
            have HN1 := Lib.hid (HL1.out hk0 hy1)
            have HN2 := Lib.hid (HM2.out hk0 hy2)
            have hcb : decide (-a2 < -y2) = false := decide_eq_false (by omega)
            have hcb2 : ¬ -a2 < -y2 := by omega
            clear HL1 HM1 HL2 HM2
            go_wp2
            go_region_held3 (fun wx => Below wq.heap.size wq wx ∧ (wx.cell? ⟨w.heap.size, 0, none⟩ = some (.string nm) ∧ wx.cell? ⟨w.heap.size, 0 + 1, none⟩ = some (.slice A n c) ∧ wx.cell? ⟨w.heap.size, 0 + 2, none⟩ = some (.slice A' n' c') ∧ wx.cell? ⟨w.heap.size, 0 + 3, none⟩ = some (.int .i64 le) ∧ wx.cell? ⟨w.heap.size, 0 + 4, none⟩ = some (.int .i64 mo)) ∧ wx.cell? ⟨blk, off + k * 3, none⟩ = some (.string sn) ∧ wx.cell? ⟨blk, off + k * 3 + 1, none⟩ = some (.int .i64 lo) ∧ wx.cell? ⟨blk, off + k * 3 + 2, none⟩ = some (.int .i64 hi)) (first | assumption | (exact KX.out _ (Below.refl _ _).drew) | (exact KX.out _ (Below.trans (And.left (by assumption)) (Below.mono hbx (Below.size (And.left (by assumption))))))) (first | (go_at_call 17; refine Calls.mono (OV.out _ (LQ.out _ (And.left (by assumption)))) ?_; rintro e wa ⟨rfl, hbx⟩))
            all_goals
              have HQA := Lib.hid (HWQ.out.below (And.left (by assumption) : Below wq.heap.size wq wa))
              obtain ⟨z0, z1, f0, f1, -⟩ := HQA.out
              have n1 : (wa.setCell ⟨B9, 0, none⟩ (.int .i64 (k : Int))).cell? ⟨B9, 1, none⟩ = some (.int .i64 i2) := (World.cell?_setCell_other _ _ _ _ (by simp)).trans z1
              have n2 : (wa.setCell ⟨B9, 0, none⟩ (.int .i64 (k : Int))).frozen? ⟨B9, 1, none⟩ = false := by rw [World.frozen?_setCell]; exact f1
              go_wp2
              go_roundw
              case rel => exact ⟨k + 1, by omega, by omega, by go_num, by rw [HN1.out.2], by rw [HN2.out.2], Lib.hid (by rw [HN1.out.1, HN2.out.1]; exact (HQA.out.set0 (k : Int)))⟩
              case measure => simp [intOf]; omega
        · by_cases hy2 : y2 < a2
          · 
            have HN1 := Lib.hid (HM1.out hk0 hy1)
            have HN2 := Lib.hid (HL2.out hk0 hy2)
            have hcb : decide (-a2 < -y2) = true := decide_eq_true (by omega)
            have hcb2 : -a2 < -y2 := by omega
            clear HL1 HM1 HL2 HM2
            go_wp2
            go_region_held3 (fun wx => Below wq.heap.size wq wx ∧ (wx.cell? ⟨w.heap.size, 0, none⟩ = some (.string nm) ∧ wx.cell? ⟨w.heap.size, 0 + 1, none⟩ = some (.slice A n c) ∧ wx.cell? ⟨w.heap.size, 0 + 2, none⟩ = some (.slice A' n' c') ∧ wx.cell? ⟨w.heap.size, 0 + 3, none⟩ = some (.int .i64 le) ∧ wx.cell? ⟨w.heap.size, 0 + 4, none⟩ = some (.int .i64 mo)) ∧ wx.cell? ⟨blk, off + k * 3, none⟩ = some (.string sn) ∧ wx.cell? ⟨blk, off + k * 3 + 1, none⟩ = some (.int .i64 lo) ∧ wx.cell? ⟨blk, off + k * 3 + 2, none⟩ = some (.int .i64 hi)) (first | assumption | (exact KX.out _ (Below.refl _ _).drew) | (exact KX.out _ (Below.trans (And.left (by assumption)) (Below.mono hbx (Below.size (And.left (by assumption))))))) (first | (go_at_call 17; refine Calls.mono (OV.out _ (LQ.out _ (And.left (by assumption)))) ?_; rintro e wa ⟨rfl, hbx⟩))
            all_goals
              have HQA := Lib.hid (HWQ.out.below (And.left (by assumption) : Below wq.heap.size wq wa))
              obtain ⟨z0, z1, f0, f1, -⟩ := HQA.out
              go_wp2
              go_roundw
              case rel => exact ⟨k + 1, by omega, by omega, by go_num, by rw [HN1.out.2], by rw [HN2.out.2], Lib.hid (by rw [HN1.out.1, HN2.out.1]; exact (HQA.out.set1 (k : Int)))⟩
              case measure => simp [intOf]; omega
          · 
            have HN1 := Lib.hid (HM1.out hk0 hy1)
            have HN2 := Lib.hid (HM2.out hk0 hy2)
            have hcb : decide (-a2 < -y2) = false := decide_eq_false (by omega)
            have hcb2 : ¬ -a2 < -y2 := by omega
            clear HL1 HM1 HL2 HM2
            go_wp2
            go_region_held3 (fun wx => Below wq.heap.size wq wx ∧ (wx.cell? ⟨w.heap.size, 0, none⟩ = some (.string nm) ∧ wx.cell? ⟨w.heap.size, 0 + 1, none⟩ = some (.slice A n c) ∧ wx.cell? ⟨w.heap.size, 0 + 2, none⟩ = some (.slice A' n' c') ∧ wx.cell? ⟨w.heap.size, 0 + 3, none⟩ = some (.int .i64 le) ∧ wx.cell? ⟨w.heap.size, 0 + 4, none⟩ = some (.int .i64 mo)) ∧ wx.cell? ⟨blk, off + k * 3, none⟩ = some (.string sn) ∧ wx.cell? ⟨blk, off + k * 3 + 1, none⟩ = some (.int .i64 lo) ∧ wx.cell? ⟨blk, off + k * 3 + 2, none⟩ = some (.int .i64 hi)) (first | assumption | (exact KX.out _ (Below.refl _ _).drew) | (exact KX.out _ (Below.trans (And.left (by assumption)) (Below.mono hbx (Below.size (And.left (by assumption))))))) (first | (go_at_call 17; refine Calls.mono (OV.out _ (LQ.out _ (And.left (by assumption)))) ?_; rintro e wa ⟨rfl, hbx⟩))
            all_goals
              have HQA := Lib.hid (HWQ.out.below (And.left (by assumption) : Below wq.heap.size wq wa))
              obtain ⟨z0, z1, f0, f1, -⟩ := HQA.out
              go_wp2
              go_roundw
              case rel => exact ⟨k + 1, by omega, by omega, by go_num, by rw [HN1.out.2], by rw [HN2.out.2], Lib.hid (by rw [HN1.out.1, HN2.out.1]; exact HQA.out)⟩
              case measure => simp [intOf]; omega
      · have hk' : k = m := by omega
        have HWQm : Hid (WQ w5 wr B9 p1 p2) := Lib.hid (by rw [← HP1.out, ← HP2.out, ← hk']; exact HWQ.out)
        rw [show wsV v1 l k = u by rw [hk', HU.out], show wsV v2 l k = v by rw [hk', HVV.out]]
        clear HWQ
        have HQE := fun wx => eqArr2 p1 p2 wx
        have LQ := Lib.hid (fun wx (hb : Below wr.heap.size wr wx) => (show Below B9 w5 wx from HWQm.out.bel.trans (hb.mono (Nat.le_of_lt (World.block_lt_of_cell? wr _ HWQm.out.c0)))))
        have KZ := Lib.hid (fun wx (hb : Below wr.heap.size wr wx) => (show Below wr.heap.size wr wx ∧ (wx.cell? ⟨w4.heap.size, 0, none⟩ = some (.int .i64 p1) ∧ wx.cell? ⟨w4.heap.size, 0 + 1, none⟩ = some (.int .i64 p2) ∧ wx.cell? ⟨w4.heap.size + 1, 0, none⟩ = some (.int .i64 xx) ∧ wx.cell? ⟨w4.heap.size + 1, 0 + 1, none⟩ = some (.int .i64 yy)) ∧ wx.cell? ⟨B9, 0, none⟩ = some (.int .i64 p1) ∧ wx.cell? ⟨B9, 0 + 1, none⟩ = some (.int .i64 p2) from ⟨hb, KX9.out wx (LQ.out wx hb), (HWQm.out.below hb).c0, (HWQm.out.below hb).c1⟩))
        subst hk'
        go_wp2
        go_region_held3 (fun wx => Below wr.heap.size wr wx ∧ (wx.cell? ⟨w4.heap.size, 0, none⟩ = some (.int .i64 p1) ∧ wx.cell? ⟨w4.heap.size, 0 + 1, none⟩ = some (.int .i64 p2) ∧ wx.cell? ⟨w4.heap.size + 1, 0, none⟩ = some (.int .i64 xx) ∧ wx.cell? ⟨w4.heap.size + 1, 0 + 1, none⟩ = some (.int .i64 yy)) ∧ wx.cell? ⟨B9, 0, none⟩ = some (.int .i64 p1) ∧ wx.cell? ⟨B9, 0 + 1, none⟩ = some (.int .i64 p2)) (first | assumption | (exact KZ.out _ (Below.refl _ _).drew) | (exact KZ.out _ (Below.trans (And.left (by assumption)) (Below.mono hbx (Below.size (And.left (by assumption))))))) (first | (go_at_call 18; refine Calls.mono (RO _).out ?_; rintro e wc ⟨rfl, hbx⟩))
        all_goals
          have HBC := Lib.hid (And.left (by assumption) : Below wr.heap.size wr wc)
          go_wp2
          go_ret
          exact ⟨rfl, LW.out _ (LQ.out _ HBC.out)⟩
theorem fitWorst_law (nm : ByteArray) (F : FitD) (A : Option Addr) (n c : Nat) (A' : Option Addr) (n' c' : Nat) (S : Option Addr) (m d : Nat) (l : List Sn) (hf : nm.size ≤ maxLen ∧ (n ≤ maxLen ∧ n ≤ c) ∧ (n' ≤ maxLen ∧ n' ≤ c')) (hm : m ≤ maxLen ∧ m ≤ d) (w : World) (hA : MdRow w A n F.o ∧ MdRow w A' n' F.i) (hS : SnRow w S m l) :
    Calls Tryz.prog 8 #[ftV nm A n c A' n' c' F.le F.mo, .slice S m d] w fun e w' => e = .returned (.bool true) ∧ Below w.heap.size w w' := by
  cases h1 : slightB nm n n'
  · exact fitWorst_out (.inl h1) hf.1 hf.2.1.1 hf.2.2.1 hm.1 w hS
  · cases h2 : snBound l
    · exact fitWorst_out (.inr h2) hf.1 hf.2.1.1 hf.2.2.1 hm.1 w hS
    · have h3 := h1
      unfold slightB at h3
      simp only [Bool.and_eq_true, decide_eq_true_eq] at h3
      by_cases h0 : wcode nm F l = 0
      · unfold wcode at h0
        by_cases hb : bothCode nm F l = 0
        · rw [hb] at h0
          have hln := hS.1
          by_cases hm0 : l.length = 0
          · rw [decide_eq_true hm0] at h0; exact absurd h0 (by simp)
          · exact fitWorst_good hb (by omega) h1 h2 hf.1 w hA.1 hA.2 hS
        · rw [decide_eq_false hb] at h0; exact absurd h0 hb
      · exact fitWorst_bad rfl h0 h1 h2 hf.1 (by omega) (by omega) hm.1 w hA.1 hA.2 hS
end Go.Proofs.YtcjhodlimpgegaaGreat
